import itertools
import unittest

from helper import Case, house_told, no_names_nor_none, no_rights, other_kinds, run, seat_told, spoil, ways, world_told
from treeright.errors import Down, NoAsker, NoHouse, NoLetter, NoRight, NoRow, NoTie, NoTree
from treeright.houses import House
from treeright.mending import next_on
from treeright.trees import Tree
from treeright.world import World

ONE = Tree(["a"], [])
TWO = Tree(["a", "b"], [("a", "b")])
LINE = Tree(["a", "b", "c", "d"], [("a", "b"), ("b", "c"), ("c", "d")])
STAR = Tree(["a", "b", "c", "hub"], [("hub", "a"), ("hub", "b"), ("hub", "c")])
WORDS = {"want": 4, "leave": 3, "done": 3, "come": 3, "fall": 2, "cut": 3, "mend": 3}


def arrows_of(world, right):
    return [world.house(house).arrow(right) for house in world.tree().houses()]


def busy():
    """A world in which each house has something to ask, and letters are on their way."""
    return run(
        World(LINE, ["a", "d"]), ("want", "a", "ann", 0), ("want", "a", "bob", 0), ("want", "c", "cy", 0),
        ("want", "c", "di", 1), ("come", "c", "b"), ("want", "b", "ed", 1))


class Made(Case):
    def test_of_one_house(self):
        for many in (1, 2, 3, 4):
            world = World(ONE, ["a"] * many)
            self.same(world_told(world, many), {
                "tree": (["a"], []), "down": [], "letters": {}, "book": [],
                "houses": {"a": ([], [(None, [], None, False)] * many)},
            })
            self.refuse(NoRight, world, world.house("a").arrow, many)

    def test_arrows_at_first(self):
        world = World(LINE, ["a", "c", "d", "c"])
        self.same(arrows_of(world, 0), [None, "a", "b", "c"])
        self.same(arrows_of(world, 1), ["b", "c", None, "c"])
        self.same(arrows_of(world, 2), ["b", "c", "d", None])
        self.same(arrows_of(world, 3), ["b", "c", None, "c"])
        world = World(STAR, ["b"])
        self.same(arrows_of(world, 0), ["hub", None, "hub", "b"])
        world = World(TWO, ["b"])
        self.same(arrows_of(world, 0), ["b", None])

    def test_nothing_else_stands_at_first(self):
        for places in itertools.product(LINE.houses(), repeat=2):
            world = World(LINE, list(places))
            for house in LINE.houses():
                due = [(next_on(LINE, house, place), [], None, False) for place in places]
                self.same(house_told(world.house(house), 2), ([], due))
                self.assertIs(world.is_down(house), False)
            for way in ways(LINE):
                self.same(world.letters(*way), [])
            self.same(world.book(), [])

    def test_of_no_list_of_places(self):
        for thing in [None, "", "a", ("a",), {"a": "a"}] + [odd for odd in other_kinds() if type(odd) is not list]:
            for tree in (ONE, LINE):
                self.refuse(NoRight, tree, World, tree, thing)

    def test_of_no_places(self):
        self.refuse(NoRight, LINE, World, LINE, [])

    def test_of_what_is_no_house_of_the_tree(self):
        for thing in ["e", "z", "aa"] + no_names_nor_none():
            for at in range(3):
                places = ["a", "d"]
                places.insert(at, thing)
                self.refuse(NoHouse, LINE, World, LINE, places)
            self.refuse(NoHouse, ONE, World, ONE, [thing])

    def test_of_no_tree(self):
        for thing in [None, "a", ["a"], ("a", "b"), {"a": []}]:
            self.refuse(NoTree, None, World, thing, ["a"])

    def test_places_are_not_changed_and_a_change_of_them_changes_nothing(self):
        places = ["a", "d"]
        world = World(LINE, places)
        run(world, ("want", "b", "x", 0), ("mend", [], []))
        self.same(places, ["a", "d"])
        places[0] = "c"
        places.append("b")
        self.same(arrows_of(world, 0), [None, "a", "b", "c"])
        self.refuse(NoRight, world, world.put, ("want", "a", "y", 2))

    def test_worlds_of_one_tree_are_apart(self):
        one, other = World(LINE, ["a"]), World(LINE, ["a"])
        run(one, ("want", "b", "x", 0), ("fall", "d"), ("cut", "a", "b"))
        self.same(world_told(other, 1), world_told(World(LINE, ["a"]), 1))


class Lines(Case):
    def test_want_of_what_is_here(self):
        world = World(LINE, ["a", "a"])
        self.same(world.put(("want", "a", "x", 1)), [("want", "a", "x", 1), ("given", "a", "x", 1)])
        self.same(world.put(("want", "a", "y", 1)), [("want", "a", "y", 1)])
        self.same(world.put(("want", "a", "z", None)), [("want", "a", "z", None), ("given", "a", "z", 0)])

    def test_want_of_what_is_elsewhere(self):
        world = World(LINE, ["a", "d"])
        self.same(world.put(("want", "c", "x", 0)), [("want", "c", "x", 0), ("sends", "c", "b", 0, "ask")])
        self.same(world.letters("c", "b"), [(0, "ask")])
        self.same(world.put(("want", "c", "y", 0)), [("want", "c", "y", 0)])
        self.same(world.put(("want", "c", "z", None)), [("want", "c", "z", None), ("sends", "c", "d", 1, "ask")])
        self.same(world.letters("c", "d"), [(1, "ask")])

    def test_leave(self):
        world = run(World(LINE, ["a"]), ("want", "a", "x", 0), ("want", "a", "y", 0))
        self.same(world.put(("leave", "a", "y")), [("leave", "a", "y")])
        self.same(world.house("a").askers(), [("x", 0, False)])

    def test_done(self):
        world = run(World(LINE, ["b"]), ("want", "b", "x", 0), ("want", "b", "y", 0), ("want", "a", "z", 0))
        self.same(world.put(("come", "a", "b")), [("come", "a", "b")])
        self.same(world.put(("done", "b", "x")), [("done", "b", "x"), ("given", "b", "y", 0)])
        self.same(world.put(("done", "b", "y")), [("done", "b", "y"), ("sends", "b", "a", 0, "right")])
        self.same(world.letters("b", "a"), [(0, "right")])
        self.same(world.put(("come", "b", "a")), [("come", "b", "a"), ("given", "a", "z", 0)])
        self.same(world.put(("done", "a", "z")), [("done", "a", "z")])

    def test_come_of_an_ask_is_led_on(self):
        world = run(World(LINE, ["a"]), ("want", "d", "x", 0))
        self.same(world.put(("come", "d", "c")), [("come", "d", "c"), ("sends", "c", "b", 0, "ask")])
        self.same(world.put(("come", "c", "b")), [("come", "c", "b"), ("sends", "b", "a", 0, "ask")])
        self.same(world.put(("come", "b", "a")), [("come", "b", "a"), ("sends", "a", "b", 0, "right")])
        self.same(world.put(("come", "a", "b")), [("come", "a", "b"), ("sends", "b", "c", 0, "right")])
        self.same(world.put(("come", "b", "c")), [("come", "b", "c"), ("sends", "c", "d", 0, "right")])
        self.same(world.put(("come", "c", "d")), [("come", "c", "d"), ("given", "d", "x", 0)])
        self.same(arrows_of(world, 0), ["b", "c", "d", None])

    def test_come_of_the_right_with_back(self):
        world = run(
            World(TWO, ["a"]), ("want", "a", "x", 0), ("want", "b", "y", 0), ("come", "b", "a"), ("want", "a", "z", 0))
        self.same(world.put(("done", "a", "x")), [("done", "a", "x"), ("sends", "a", "b", 0, "back")])
        self.same(world.letters("a", "b"), [(0, "back")])
        self.same(seat_told(world.house("a"), 0), ("b", [("asker", "z")], None, True))
        self.same(world.put(("come", "a", "b")), [("come", "a", "b"), ("given", "b", "y", 0)])
        self.same(seat_told(world.house("b"), 0), (None, [("house", "a")], "y", False))
        self.same(world.put(("done", "b", "y")), [("done", "b", "y"), ("sends", "b", "a", 0, "right")])
        self.same(world.put(("come", "b", "a")), [("come", "b", "a"), ("given", "a", "z", 0)])

    def test_come_of_the_right_without_back_lets_nobody_wait(self):
        world = run(World(TWO, ["a"]), ("want", "b", "y", 0), ("come", "b", "a"))
        self.same(world.letters("a", "b"), [(0, "right")])
        self.same(world.put(("come", "a", "b")), [("come", "a", "b"), ("given", "b", "y", 0)])
        self.same(world.house("b").row(0), [])

    def test_the_first_letter_sent_is_the_first_that_comes(self):
        world = run(World(TWO, ["a", "a", "a"]), ("want", "b", "x", 2), ("want", "b", "y", 0), ("want", "b", "z", 1))
        self.same(world.letters("b", "a"), [(2, "ask"), (0, "ask"), (1, "ask")])
        self.same(world.put(("come", "b", "a")), [("come", "b", "a"), ("sends", "a", "b", 2, "right")])
        self.same(world.letters("b", "a"), [(0, "ask"), (1, "ask")])
        self.same(world.put(("want", "a", "w", 2)), [("want", "a", "w", 2), ("sends", "a", "b", 2, "ask")])
        self.same(world.put(("come", "b", "a")), [("come", "b", "a"), ("sends", "a", "b", 0, "right")])
        self.same(world.letters("a", "b"), [(2, "right"), (2, "ask"), (0, "right")])
        self.same(world.put(("come", "a", "b")), [("come", "a", "b"), ("given", "b", "x", 2)])
        self.same(world.put(("come", "a", "b")), [("come", "a", "b")])
        self.same(world.house("b").row(2), [("house", "a")])
        self.same(world.put(("come", "a", "b")), [("come", "a", "b"), ("given", "b", "y", 0)])

    def test_each_way_has_its_own_queue(self):
        world = run(World(LINE, ["a", "c"]), ("want", "b", "x", 0), ("want", "b", "y", 1), ("want", "c", "z", 0))
        self.same(world.letters("b", "a"), [(0, "ask")])
        self.same(world.letters("b", "c"), [(1, "ask")])
        self.same(world.letters("c", "b"), [(0, "ask")])
        self.same(world.letters("a", "b"), [])
        self.same(world.put(("come", "c", "b")), [("come", "c", "b")])
        self.same(world.letters("b", "c"), [(1, "ask")])

    def test_the_row_is_told_as_it_was_handed_in(self):
        world = World(LINE, ["a"])
        for row in (("want", "b", "x", None), ("leave", "b", "x"), ("fall", "d"), ("cut", "b", "c"), ("cut", "b", "a"),
                    ("mend", ["d"], [])):
            self.same(world.put(row)[0], row)


def rows_of_no_kind():
    """What is no row: of other kinds, of wrong lengths, and with wrong words."""
    yield from [None, "want", "", b"want", 0, 1, True, {}, {"want": "a"}, {"fall"}, object(), []]
    yield from [["fall", "a"], ["want", "a", "x", 0], ["come", "a", "b"], ["mend", [], []]]
    yield from [(), ("",), ("a",), ("none", "a"), ("Fall", "a"), ("fall ", "a"), ("falls", "a"), (b"fall", "a")]
    yield from [(None, "a"), (True, "a"), (0, "a", "b"), (["fall"], "a"), (("fall",), "a"), ({"fall": 1}, "a")]
    yield from [("given", "a", "x", 0), ("sends", "a", "b", 0, "ask"), ("lost", "a", "b", 0, "ask"), ("anew", 0, "a")]
    for word, length in WORDS.items():
        for many in range(7):
            if many != length - 1:
                yield (word,) + ("a", "b", "x", 0, 0, 0)[:many]


class NoRows(Case):
    def test_what_is_no_row(self):
        for world in (World(LINE, ["a"]), busy(), run(busy(), ("fall", "a"))):
            for row in rows_of_no_kind():
                self.refuse(NoRow, world, world.put, row)

    def test_a_wrong_length_ahead_of_what_stands_in_it(self):
        world = busy()
        for word, length in WORDS.items():
            self.refuse(NoRow, world, world.put, (word,) + (None,) * length)
            self.refuse(NoRow, world, world.put, (word,) + (None,) * (length - 2))


class HousesRefused(Case):
    ODD = ["e", "z", "ann", "aa"] + no_names_nor_none()

    def worlds(self):
        return [World(LINE, ["a"]), run(busy(), ("fall", "a")), run(busy(), ("cut", "a", "b"))]

    def test_no_house_ahead_of_what_asker_and_right_are(self):
        for world in self.worlds():
            for thing in self.ODD:
                self.refuse(NoHouse, world, world.put, ("fall", thing))
                for asker in ("x", "cy", None, ["x"]):
                    self.refuse(NoHouse, world, world.put, ("want", thing, asker, 0))
                    self.refuse(NoHouse, world, world.put, ("want", thing, asker, ["no right"]))
                    self.refuse(NoHouse, world, world.put, ("leave", thing, asker))
                    self.refuse(NoHouse, world, world.put, ("done", thing, asker))

    def test_no_house_of_two_ahead_of_ties_and_of_what_is_down(self):
        for world in self.worlds():
            for thing in self.ODD:
                for word in ("come", "cut"):
                    for house in ("a", "b", "d"):
                        self.refuse(NoHouse, world, world.put, (word, thing, house))
                        self.refuse(NoHouse, world, world.put, (word, house, thing))
                    self.refuse(NoHouse, world, world.put, (word, thing, thing))

    def test_no_tie_ahead_of_what_is_down(self):
        for world in self.worlds():
            for one, other in (("a", "a"), ("b", "b"), ("a", "c"), ("c", "a"), ("a", "d"), ("d", "a"), ("b", "d")):
                self.refuse(NoTie, world, world.put, ("come", one, other))
                self.refuse(NoTie, world, world.put, ("cut", one, other))

    def test_what_is_down_ahead_of_askers_rights_and_letters(self):
        world = run(busy(), ("fall", "c"))
        for asker in ("cy", "di", "new", "", None, ["x"]):
            for right in (0, 1, None, 7, True, "a"):
                self.refuse(Down, world, world.put, ("want", "c", asker, right))
            self.refuse(Down, world, world.put, ("leave", "c", asker))
            self.refuse(Down, world, world.put, ("done", "c", asker))
        self.refuse(Down, world, world.put, ("fall", "c"))
        for word in ("come", "cut"):
            for one, other in (("b", "c"), ("c", "b"), ("c", "d"), ("d", "c")):
                self.refuse(Down, world, world.put, (word, one, other))

    def test_a_tie_that_is_down(self):
        world = run(busy(), ("cut", "c", "b"))
        for word in ("come", "cut"):
            self.refuse(Down, world, world.put, (word, "b", "c"))
            self.refuse(Down, world, world.put, (word, "c", "b"))

    def test_a_tie_that_is_down_between_houses_that_are(self):
        world = run(busy(), ("cut", "b", "c"), ("fall", "b"), ("fall", "c"))
        for word in ("come", "cut"):
            self.refuse(Down, world, world.put, (word, "b", "c"))

    def test_a_house_that_was_left_out_is_none(self):
        world = run(busy(), ("fall", "c"), ("mend", [], ["c"]))
        for row in (("fall", "c"), ("want", "c", "x", 0), ("come", "b", "c"), ("cut", "c", "d")):
            self.refuse(NoHouse, world, world.put, row)
        self.same(world.put(("cut", "d", "b")), [("cut", "d", "b"), ("lost", "b", "d", 1, "ask")])


class AskersAndLettersRefused(Case):
    def test_an_asker_that_is_no_name_ahead_of_a_right_that_is_none(self):
        world = busy()
        for asker in no_names_nor_none():
            for right in (0, None, 2, True, "a", [0]):
                self.refuse(NoAsker, world, world.put, ("want", "a", asker, right))
            self.refuse(NoAsker, world, world.put, ("leave", "a", asker))
            self.refuse(NoAsker, world, world.put, ("done", "a", asker))

    def test_a_right_that_is_none_ahead_of_an_asker_that_is_here(self):
        world = busy()
        for right in no_rights(2):
            for asker in ("ann", "bob", "new"):
                self.refuse(NoRight, world, world.put, ("want", "a", asker, right))

    def test_an_asker_that_does_not_stand_so(self):
        world = busy()
        for asker in ("ann", "bob"):
            for right in (0, 1, None):
                self.refuse(NoAsker, world, world.put, ("want", "a", asker, right))
        self.refuse(NoAsker, world, world.put, ("leave", "a", "ann"))
        self.refuse(NoAsker, world, world.put, ("leave", "a", "cy"))
        self.refuse(NoAsker, world, world.put, ("leave", "b", "c"))
        self.refuse(NoAsker, world, world.put, ("done", "a", "bob"))
        self.refuse(NoAsker, world, world.put, ("done", "c", "cy"))
        self.refuse(NoAsker, world, world.put, ("done", "d", "ann"))

    def test_no_letter_on_its_way(self):
        world = busy()
        empty = [way for way in ways(LINE) if not world.letters(*way)]
        self.assertEqual(sorted(empty), [("a", "b"), ("c", "b"), ("d", "c")])
        for one, other in empty:
            self.refuse(NoLetter, world, world.put, ("come", one, other))

    def test_one_name_in_unlike_houses(self):
        world = run(World(TWO, ["a"]), ("want", "a", "x", 0))
        self.same(world.put(("want", "b", "x", 0)), [("want", "b", "x", 0), ("sends", "b", "a", 0, "ask")])
        self.refuse(NoAsker, world, world.put, ("done", "b", "x"))
        self.same(world.put(("leave", "b", "x")), [("leave", "b", "x")])

    def test_behind_a_refusal_all_goes_on(self):
        world = busy()
        for row in (("want", "a", "ann", 0), ("come", "a", "b"), ("fall", "e"), ("mend", ["a"], []), ("none",)):
            with self.assertRaises(ValueError):
                world.put(row)
        self.same(world_told(world, 2), world_told(busy(), 2))
        self.same(world.put(("done", "a", "ann")), [("done", "a", "ann"), ("given", "a", "bob", 0)])


class Told(Case):
    def test_letters_of_what_is_no_house(self):
        for world in (World(LINE, ["a"]), run(busy(), ("fall", "a"))):
            for thing in ["e"] + no_names_nor_none():
                self.refuse(NoHouse, world, world.letters, thing, "a")
                self.refuse(NoHouse, world, world.letters, "a", thing)
                self.refuse(NoHouse, world, world.letters, thing, thing)

    def test_letters_of_houses_that_are_not_tied(self):
        world = run(busy(), ("fall", "a"))
        for one, other in (("a", "a"), ("d", "d"), ("a", "c"), ("d", "a"), ("b", "d")):
            self.refuse(NoTie, world, world.letters, one, other)

    def test_letters_where_something_is_down_are_none(self):
        world = run(busy(), ("fall", "d"), ("cut", "a", "b"))
        for way in (("c", "d"), ("d", "c"), ("a", "b"), ("b", "a")):
            self.same(world.letters(*way), [])
        self.same(world.letters("b", "c"), [(1, "ask")])

    def test_the_tree(self):
        world = World(LINE, ["a"])
        self.assertIsInstance(world.tree(), Tree)
        self.same((world.tree().houses(), world.tree().ties()), (LINE.houses(), LINE.ties()))
        run(world, ("fall", "b"), ("cut", "c", "d"))
        self.same((world.tree().houses(), world.tree().ties()), (LINE.houses(), LINE.ties()))

    def test_the_tree_behind_a_mending(self):
        world = run(World(STAR, ["a"]), ("fall", "hub"), ("mend", ["hub"], []))
        self.same(world.tree().ties(), STAR.ties())
        run(world, ("fall", "hub"), ("mend", [], ["hub"]))
        self.same((world.tree().houses(), world.tree().ties()), (["a", "b", "c"], [("a", "b"), ("a", "c")]))
        self.same(STAR.houses(), ["a", "b", "c", "hub"])

    def test_the_book_is_all_lines(self):
        world, lines = World(LINE, ["a", "d"]), []
        for row in (("want", "a", "x", 0), ("want", "c", "y", 0), ("come", "c", "b"), ("fall", "c"),
                    ("want", "b", "z", 1), ("cut", "a", "b"), ("mend", ["c"], []), ("leave", "c", "y")):
            with self.assertRaises(NoRow):
                world.put(("none",))
            lines += world.put(row)
            self.same(world.book(), lines)
        self.assertGreater(len(lines), 15)

    def test_is_down(self):
        world = World(LINE, ["a"])
        self.same([world.is_down(house) for house in LINE.houses()], [False] * 4)
        run(world, ("fall", "b"), ("cut", "c", "d"))
        self.same([world.is_down(house) for house in LINE.houses()], [False, True, False, False])
        for thing in ["e"] + no_names_nor_none():
            self.refuse(NoHouse, world, world.is_down, thing)
        run(world, ("fall", "c"), ("mend", [], ["b"]))
        self.same([world.is_down(house) for house in ("a", "c", "d")], [False] * 3)
        self.refuse(NoHouse, world, world.is_down, "b")

    def test_house(self):
        world = busy()
        self.assertIsInstance(world.house("a"), House)
        self.same(house_told(world.house("a"), 2), (
            [("ann", 0, False), ("bob", 0, True)],
            [(None, [("asker", "bob")], "ann", False), ("b", [], None, False)]))
        self.same(house_told(world.house("b"), 2), (
            [("ed", 1, True)],
            [("a", [("house", "c")], None, True), ("c", [("asker", "ed")], None, True)]))

    def test_house_refused(self):
        world = run(busy(), ("fall", "c"))
        for thing in ["e"] + no_names_nor_none():
            self.refuse(NoHouse, world, world.house, thing)
        self.refuse(Down, world, world.house, "c")
        run(world, ("mend", [], ["c"]))
        self.refuse(NoHouse, world, world.house, "c")

    def test_what_is_done_to_a_house_changes_nothing(self):
        world = busy()
        due = world_told(world, 2)
        house = world.house("b")
        for deed in ((house.want, "new", 0), (house.leave, "ed"), (house.come, "a", 0, True), (house.ask, "a", 1)):
            deed[0](*deed[1:])
        self.same(world_told(world, 2), due)
        house = world.house("a")
        house.done("ann")
        house.done("bob")
        house.ask("b", 0)
        self.same(world_told(world, 2), due)

    def test_a_house_that_was_told_stays_as_it_was(self):
        world = busy()
        houses = {name: world.house(name) for name in LINE.houses()}
        due = {name: house_told(houses[name], 2) for name in houses}
        run(world, ("done", "a", "ann"), ("come", "b", "a"), ("want", "d", "x", 1), ("leave", "c", "cy"), ("fall", "d"),
            ("mend", [], ["d"]))
        self.same({name: house_told(houses[name], 2) for name in houses}, due)

    def test_a_house_that_was_told_goes_on_by_itself(self):
        house = busy().house("a")
        self.same(house.done("ann"), [("given", 0, "bob")])
        self.same(house.ask("b", 0), [])
        self.refuse(NoHouse, house, house.ask, "c", 0)
        self.refuse(NoRight, house, house.want, "x", 2)
        self.same(house.done("bob"), [("right", 0, "b", False)])


class Own(Case):
    def test_what_is_told_is_the_askers_own(self):
        world = run(busy(), ("fall", "d"), ("mend", ["d"], []), ("fall", "a"), ("fall", "b"), ("mend", ["b"], ["a"]))
        for tell in (world.book, lambda: world.letters("b", "c"), lambda: world.letters("c", "d"),
                     lambda: world.house("c").askers(), lambda: world.house("c").row(0), world.tree().houses,
                     world.tree().ties):
            self.own(tell)

    def test_letters_told_while_there_are_some(self):
        world = busy()
        self.same(world.letters("b", "a"), [(0, "ask")])
        self.own(lambda: world.letters("b", "a"))
        told = world.letters("b", "a")
        world.put(("come", "b", "a"))
        self.same(told, [(0, "ask")])

    def test_lines_that_were_told_are_not_the_books(self):
        world, due = World(LINE, ["a"]), []
        for row in (("want", "b", "x", 0), ("fall", "c"), ("fall", "d"), ("mend", ["c"], ["d"])):
            lines = world.put(row)
            due += [tuple(list(part) if type(part) is list else part for part in line) for line in lines]
            spoil(lines)
        self.same(world.book(), due)
        self.same(world.book()[-3], ("mend", ["c"], ["d"]))

    def test_lists_of_a_row_are_not_kept(self):
        world = run(World(LINE, ["a"]), ("fall", "c"), ("fall", "d"))
        kept, out = ["c"], ["d"]
        lines = world.put(("mend", kept, out))
        kept.append("a")
        out.clear()
        self.same(lines, [("mend", ["c"], ["d"])])
        self.same(world.book()[-1], ("mend", ["c"], ["d"]))

    def test_lists_of_a_row_are_not_changed(self):
        world = run(World(LINE, ["a"]), ("fall", "d"), ("fall", "c"), ("fall", "b"))
        kept, out = ["b"], ["d", "c"]
        spoil(world.put(("mend", kept, out)))
        self.same((kept, out), (["b"], ["d", "c"]))


class NextOn(Case):
    def test_the_next_house_on_each_road(self):
        for tree in (ONE, TWO, LINE, STAR):
            for one, other in itertools.product(tree.houses(), repeat=2):
                due = None if one == other else tree.road(one, other)[1]
                self.same(next_on(tree, one, other), due)

    def test_written_out(self):
        self.same(next_on(LINE, "a", "d"), "b")
        self.same(next_on(LINE, "d", "a"), "c")
        self.same(next_on(LINE, "b", "c"), "c")
        self.same(next_on(LINE, "b", "b"), None)
        self.same(next_on(STAR, "a", "c"), "hub")

    def test_no_house(self):
        for thing in ["e"] + no_names_nor_none():
            self.refuse(NoHouse, LINE, next_on, LINE, thing, "a")
            self.refuse(NoHouse, LINE, next_on, LINE, "a", thing)
            self.refuse(NoHouse, LINE, next_on, LINE, thing, thing)


if __name__ == "__main__":
    unittest.main()
