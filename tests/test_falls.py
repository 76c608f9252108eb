import unittest

from helper import Case, house_told, no_names_nor_none, other_kinds, run, seat_told, ways, world_told
from treeright.errors import Down, NoMend, NoRow
from treeright.trees import Tree
from treeright.world import World

ONE = Tree(["a"], [])
TWO = Tree(["a", "b"], [("a", "b")])
LINE = Tree(["a", "b", "c", "d"], [("a", "b"), ("b", "c"), ("c", "d")])
STAR = Tree(["a", "b", "x", "m", "z"], [("m", "a"), ("m", "b"), ("m", "x"), ("m", "z")])


def full_star():
    """The star with letters both ways on each tie; four rights."""
    return run(
        World(STAR, ["m", "a", "z", "x"]), ("want", "b", "u", 0), ("come", "b", "m"), ("want", "b", "v", 2),
        ("want", "z", "u", 0), ("want", "z", "v", 1), ("want", "a", "u", 0), ("want", "x", "u", 2),
        ("want", "m", "u", 3), ("want", "m", "v", 1), ("want", "m", "w", 2), ("want", "m", "y", 0))


A_M = [("lost", "a", "m", 0, "ask"), ("lost", "m", "a", 1, "ask")]
B_M = [("lost", "b", "m", 2, "ask"), ("lost", "m", "b", 0, "right"), ("lost", "m", "b", 0, "ask")]
M_X = [("lost", "m", "x", 3, "ask"), ("lost", "x", "m", 2, "ask")]
M_Z = [("lost", "m", "z", 2, "ask"), ("lost", "z", "m", 0, "ask"), ("lost", "z", "m", 1, "ask")]


class Falls(Case):
    def test_letters_of_the_full_star(self):
        world = full_star()
        self.same({way: world.letters(*way) for way in ways(STAR)}, {
            ("a", "m"): [(0, "ask")], ("m", "a"): [(1, "ask")],
            ("b", "m"): [(2, "ask")], ("m", "b"): [(0, "right"), (0, "ask")],
            ("m", "x"): [(3, "ask")], ("x", "m"): [(2, "ask")],
            ("m", "z"): [(2, "ask")], ("z", "m"): [(0, "ask"), (1, "ask")]})

    def test_the_middle_falls(self):
        world = full_star()
        self.same(world.put(("fall", "m")), [("fall", "m")] + A_M + B_M + M_X + M_Z)
        for way in ways(STAR):
            self.same(world.letters(*way), [])
        self.same([house for house in STAR.houses() if world.is_down(house)], ["m"])

    def test_a_leaf_falls(self):
        for house, lost in (("a", A_M), ("b", B_M), ("x", M_X), ("z", M_Z)):
            world = full_star()
            due = {way: [] if house in way else world.letters(*way) for way in ways(STAR)}
            self.same(world.put(("fall", house)), [("fall", house)] + lost)
            self.same({way: world.letters(*way) for way in ways(STAR)}, due)
            self.same([other for other in STAR.houses() if world.is_down(other)], [house])

    def test_one_behind_the_other(self):
        world = run(full_star(), ("fall", "b"), ("cut", "m", "x"))
        self.same(world.put(("fall", "m")), [("fall", "m")] + A_M + M_Z)
        self.same(world.put(("fall", "a")), [("fall", "a")])

    def test_nothing_else_is_changed(self):
        world = full_star()
        due = {house: house_told(world.house(house), 4) for house in STAR.houses()}
        world.put(("fall", "m"))
        del due["m"]
        self.same({house: house_told(world.house(house), 4) for house in due}, due)

    def test_it_falls_without_letters(self):
        self.same(World(LINE, ["a"]).put(("fall", "a")), [("fall", "a")])
        self.same(World(ONE, ["a"]).put(("fall", "a")), [("fall", "a")])

    def test_all_houses_fall(self):
        world = run(World(LINE, ["a"]), *[("fall", house) for house in LINE.houses()])
        self.same([world.is_down(house) for house in LINE.houses()], [True] * 4)
        for house in LINE.houses():
            self.refuse(Down, world, world.put, ("fall", house))
            self.refuse(Down, world, world.put, ("want", house, "x", 0))


class Cuts(Case):
    def test_letters_both_ways_told_either_way(self):
        for one, other, lost in (("a", "m", A_M), ("b", "m", B_M), ("m", "x", M_X), ("m", "z", M_Z)):
            for way in ((one, other), (other, one)):
                world = full_star()
                due = {around: [] if set(around) == set(way) else world.letters(*around) for around in ways(STAR)}
                self.same(world.put(("cut", *way)), [("cut", *way)] + lost)
                self.same({around: world.letters(*around) for around in ways(STAR)}, due)
                self.same([house for house in STAR.houses() if world.is_down(house)], [])

    def test_without_letters(self):
        self.same(World(LINE, ["a"]).put(("cut", "c", "b")), [("cut", "c", "b")])

    def test_its_houses_go_on(self):
        world = run(World(LINE, ["b"]), ("cut", "a", "b"))
        self.same(world.put(("want", "b", "x", 0)), [("want", "b", "x", 0), ("given", "b", "x", 0)])
        self.same(world.put(("want", "c", "y", 0)), [("want", "c", "y", 0), ("sends", "c", "b", 0, "ask")])
        self.same(world.put(("come", "c", "b")), [("come", "c", "b")])
        self.same(world.put(("done", "b", "x")), [("done", "b", "x"), ("sends", "b", "c", 0, "right")])


class LostAtOnce(Case):
    def test_an_ask_to_a_house_that_is_down(self):
        world = run(World(LINE, ["a"]), ("fall", "b"))
        self.same(world.put(("want", "c", "x", 0)), [
            ("want", "c", "x", 0), ("sends", "c", "b", 0, "ask"), ("lost", "c", "b", 0, "ask")])
        self.same(world.letters("c", "b"), [])
        self.same(seat_told(world.house("c"), 0), ("b", [("asker", "x")], None, True))
        self.same(world.put(("want", "c", "y", 0)), [("want", "c", "y", 0)])

    def test_an_ask_on_a_tie_that_is_down_either_way(self):
        for one, other in (("b", "c"), ("c", "b")):
            world = run(World(LINE, ["a", "d"]), ("cut", one, other))
            self.same(world.put(("want", "c", "x", 0)), [
                ("want", "c", "x", 0), ("sends", "c", "b", 0, "ask"), ("lost", "c", "b", 0, "ask")])
            self.same(world.put(("want", "b", "x", 1)), [
                ("want", "b", "x", 1), ("sends", "b", "c", 1, "ask"), ("lost", "b", "c", 1, "ask")])
            self.same((world.letters("c", "b"), world.letters("b", "c")), ([], []))

    def test_an_ask_that_is_led_on(self):
        world = run(World(LINE, ["a"]), ("fall", "a"), ("want", "c", "x", 0))
        self.same(world.put(("come", "c", "b")), [
            ("come", "c", "b"), ("sends", "b", "a", 0, "ask"), ("lost", "b", "a", 0, "ask")])

    def test_a_right_to_a_house_that_is_down(self):
        world = run(World(LINE, ["a"]), ("want", "a", "x", 0), ("want", "b", "y", 0), ("come", "b", "a"), ("fall", "b"))
        self.same(world.put(("done", "a", "x")), [
            ("done", "a", "x"), ("sends", "a", "b", 0, "right"), ("lost", "a", "b", 0, "right")])
        self.same(seat_told(world.house("a"), 0), ("b", [], None, False))

    def test_a_right_with_back_on_a_tie_that_is_down(self):
        world = run(
            World(LINE, ["a"]), ("want", "a", "x", 0), ("want", "b", "y", 0), ("come", "b", "a"), ("want", "a", "z", 0),
            ("cut", "b", "a"))
        self.same(world.put(("done", "a", "x")), [
            ("done", "a", "x"), ("sends", "a", "b", 0, "back"), ("lost", "a", "b", 0, "back")])
        self.same(seat_told(world.house("a"), 0), ("b", [("asker", "z")], None, True))

    def test_elsewhere_letters_are_not_lost(self):
        world = run(World(LINE, ["a"]), ("fall", "d"), ("cut", "a", "b"))
        self.same(world.put(("want", "c", "x", 0)), [("want", "c", "x", 0), ("sends", "c", "b", 0, "ask")])
        self.same(world.letters("c", "b"), [(0, "ask")])


def down_line():
    """A line of two rights of which b and c are down, with askers in all houses."""
    return run(
        World(LINE, ["b", "c"]), ("want", "b", "in", 0), ("want", "b", "bob", 0), ("want", "c", "cy", 0),
        ("want", "c", "di", 1), ("want", "a", "ann", 1), ("want", "d", "dan", 0), ("want", "d", "eve", 1),
        ("come", "c", "b"), ("come", "d", "c"), ("fall", "b"), ("fall", "c"))


class Mendings(Case):
    def test_nothing_down_and_nothing_to_do(self):
        world = World(LINE, ["b", "c"])
        due = world_told(world, 2)
        self.same(world.put(("mend", [], [])), [("mend", [], [])])
        due["book"] = [("mend", [], [])]
        self.same(world_told(world, 2), due)

    def test_nothing_down_with_letters_on_their_way(self):
        world = run(World(LINE, ["b", "c"]), ("want", "a", "x", 0), ("want", "d", "y", 1), ("want", "b", "z", 1),
                    ("come", "a", "b"), ("come", "d", "c"))
        self.same(world.put(("mend", [], [])), [
            ("mend", [], []),
            ("lost", "b", "a", 0, "right"), ("lost", "b", "c", 1, "ask"), ("lost", "c", "d", 1, "right"),
            ("anew", 0, "a"), ("anew", 1, "a"),
            ("given", "a", "x", 0), ("sends", "b", "a", 1, "ask"), ("sends", "d", "c", 1, "ask")])
        self.same({house: house_told(world.house(house), 2) for house in LINE.houses()}, {
            "a": ([("x", 0, False)], [(None, [], "x", False), (None, [], None, False)]),
            "b": ([("z", 1, True)], [("a", [], None, False), ("a", [("asker", "z")], None, True)]),
            "c": ([], [("b", [], None, False), ("b", [], None, False)]),
            "d": ([("y", 1, True)], [("c", [], None, False), ("c", [("asker", "y")], None, True)]),
        })

    def test_lost_letters_in_the_order_of_the_ties(self):
        world = full_star()
        self.same(world.put(("mend", [], [])), [("mend", [], [])] + A_M + B_M + M_X + M_Z + [
            ("anew", 0, "a"), ("given", "a", "u", 0), ("sends", "b", "m", 0, "ask"), ("sends", "b", "m", 2, "ask"),
            ("sends", "m", "a", 0, "ask"), ("sends", "m", "a", 1, "ask"), ("sends", "m", "z", 2, "ask"),
            ("sends", "m", "x", 3, "ask"), ("sends", "x", "m", 2, "ask"), ("sends", "z", "m", 0, "ask"),
            ("sends", "z", "m", 1, "ask")])

    def test_houses_not_kept_are_without_askers_and_rights(self):
        world = down_line()
        self.same(world.put(("mend", [], [])), [
            ("mend", [], []), ("anew", 0, "a"), ("anew", 1, "a"), ("given", "a", "ann", 1),
            ("sends", "d", "c", 0, "ask"), ("sends", "d", "c", 1, "ask")])
        self.same(world.tree().ties(), LINE.ties())
        self.same({house: house_told(world.house(house), 2) for house in LINE.houses()}, {
            "a": ([("ann", 1, False)], [(None, [], None, False), (None, [], "ann", False)]),
            "b": ([], [("a", [], None, False), ("a", [], None, False)]),
            "c": ([], [("b", [], None, False), ("b", [], None, False)]),
            "d": ([("dan", 0, True), ("eve", 1, True)],
                  [("c", [("asker", "dan")], None, True), ("c", [("asker", "eve")], None, True)]),
        })

    def test_houses_kept_are_as_they_fell(self):
        for kept in (["b", "c"], ["c", "b"]):
            world = down_line()
            self.same(world.put(("mend", kept, [])), [
                ("mend", kept, []), ("sends", "a", "b", 1, "ask"), ("sends", "c", "b", 0, "ask"),
                ("sends", "d", "c", 0, "ask"), ("sends", "d", "c", 1, "ask")])
            self.same({house: house_told(world.house(house), 2) for house in LINE.houses()}, {
                "a": ([("ann", 1, True)], [("b", [], None, False), ("b", [("asker", "ann")], None, True)]),
                "b": ([("bob", 0, True), ("in", 0, False)],
                      [(None, [("asker", "bob")], "in", False), ("c", [], None, False)]),
                "c": ([("cy", 0, True), ("di", 1, False)],
                      [("b", [("asker", "cy")], None, True), (None, [], "di", False)]),
                "d": ([("dan", 0, True), ("eve", 1, True)],
                      [("c", [("asker", "dan")], None, True), ("c", [("asker", "eve")], None, True)]),
            })

    def test_one_kept_and_one_not(self):
        world = down_line()
        self.same(world.put(("mend", ["c"], [])), [
            ("mend", ["c"], []), ("anew", 0, "a"), ("sends", "a", "b", 1, "ask"), ("sends", "c", "b", 0, "ask"),
            ("sends", "d", "c", 0, "ask"), ("sends", "d", "c", 1, "ask")])
        self.same(seat_told(world.house("b"), 1), ("c", [], None, False))
        world = down_line()
        self.same(world.put(("mend", ["b"], [])), [
            ("mend", ["b"], []), ("anew", 1, "a"), ("given", "a", "ann", 1), ("sends", "d", "c", 0, "ask"),
            ("sends", "d", "c", 1, "ask")])
        self.same(world.house("b").inside(0), "in")

    def test_one_left_out(self):
        world = down_line()
        self.same(world.put(("mend", ["c"], ["b"])), [
            ("mend", ["c"], ["b"]), ("anew", 0, "a"), ("sends", "a", "c", 1, "ask"), ("sends", "c", "a", 0, "ask"),
            ("sends", "d", "c", 0, "ask"), ("sends", "d", "c", 1, "ask")])
        self.same((world.tree().houses(), world.tree().ties()), (["a", "c", "d"], [("a", "c"), ("c", "d")]))
        self.same(world.put(("come", "c", "a")), [("come", "c", "a"), ("sends", "a", "c", 0, "right")])
        self.same(world.put(("come", "a", "c")), [("come", "a", "c")])
        self.same(world.put(("come", "a", "c")), [("come", "a", "c"), ("given", "c", "cy", 0)])

    def test_two_left_out(self):
        for out in (["b", "c"], ["c", "b"]):
            world = down_line()
            self.same(world.put(("mend", [], out)), [
                ("mend", [], out), ("anew", 0, "a"), ("anew", 1, "a"), ("given", "a", "ann", 1),
                ("sends", "d", "a", 0, "ask"), ("sends", "d", "a", 1, "ask")])
            self.same((world.tree().houses(), world.tree().ties()), (["a", "d"], [("a", "d")]))

    def test_left_out_one_by_one_sorted(self):
        # Without m a is tied to q, without q then a to b and z; the other way about b would be tied to a and z.
        tree = Tree(["a", "b", "m", "q", "z"], [("m", "q"), ("m", "a"), ("q", "z"), ("q", "b")])
        for out in (["m", "q"], ["q", "m"]):
            world = run(World(tree, ["b"]), ("fall", "m"), ("fall", "q"), ("mend", [], out))
            self.same(world.tree().ties(), [("a", "b"), ("a", "z")])

    def test_left_out_behind_left_out(self):
        world = run(World(STAR, ["z"]), ("fall", "m"), ("mend", [], ["m"]))
        self.same(world.tree().ties(), [("a", "b"), ("a", "x"), ("a", "z")])
        run(world, ("fall", "a"), ("mend", [], ["a"]))
        self.same(world.tree().ties(), [("b", "x"), ("b", "z")])
        run(world, ("fall", "b"), ("fall", "x"), ("mend", [], ["x", "b"]))
        self.same((world.tree().houses(), world.tree().ties()), (["z"], []))
        self.same(house_told(world.house("z"), 1), ([], [(None, [], None, False)]))
        self.refuse(NoMend, run(world, ("fall", "z")), world.put, ("mend", [], ["z"]))

    def test_the_only_house_not_kept(self):
        world = run(World(ONE, ["a", "a"]), ("want", "a", "x", 0), ("want", "a", "y", 0), ("fall", "a"))
        self.same(world.put(("mend", [], [])), [("mend", [], []), ("anew", 0, "a"), ("anew", 1, "a")])
        self.same(house_told(world.house("a"), 2), ([], [(None, [], None, False)] * 2))

    def test_the_only_house_kept(self):
        world = run(World(ONE, ["a"]), ("want", "a", "x", 0), ("want", "a", "y", 0), ("fall", "a"))
        self.same(world.put(("mend", ["a"], [])), [("mend", ["a"], [])])
        self.same(house_told(world.house("a"), 1), (
            [("x", 0, False), ("y", 0, True)], [(None, [("asker", "y")], "x", False)]))

    def test_ties_are_up_again(self):
        world = run(World(LINE, ["a"]), ("cut", "b", "c"), ("cut", "a", "b"), ("want", "c", "x", 0))
        self.same(world.put(("mend", [], [])), [("mend", [], []), ("sends", "c", "b", 0, "ask")])
        self.same(world.letters("c", "b"), [(0, "ask")])
        self.same(world.put(("come", "c", "b")), [("come", "c", "b"), ("sends", "b", "a", 0, "ask")])
        self.same(world.put(("cut", "c", "b")), [("cut", "c", "b")])

    def test_a_tie_that_was_down_and_its_house_left_out(self):
        world = run(World(LINE, ["a"]), ("cut", "b", "c"), ("fall", "c"), ("mend", [], ["c"]), ("want", "d", "x", 0))
        self.same(world.letters("d", "b"), [(0, "ask")])

    def test_a_tie_that_comes_about_anew_is_up(self):
        # The tie of a and c was never there: neither what was down nor what was on its way touches it.
        world = run(World(LINE, ["a"]), ("cut", "a", "b"), ("cut", "b", "c"), ("fall", "b"), ("mend", [], ["b"]))
        self.same((world.letters("a", "c"), world.letters("c", "a")), ([], []))
        self.same(world.put(("want", "c", "x", 0)), [("want", "c", "x", 0), ("sends", "c", "a", 0, "ask")])

    def test_houses_may_fall_again(self):
        world = run(World(LINE, ["a"]), ("fall", "b"), ("mend", ["b"], []))
        self.same(world.put(("fall", "b")), [("fall", "b")])
        self.same(world.put(("mend", [], [])), [("mend", [], [])])

    def test_what_fell_earlier_is_forgotten(self):
        # b fell once and was kept, and is up: a later mending is told nothing of it and takes nothing from it.
        world = run(World(LINE, ["b"]), ("want", "b", "x", 0), ("fall", "b"), ("mend", ["b"], []), ("fall", "d"))
        self.same(world.put(("mend", [], [])), [("mend", [], [])])
        self.same(world.house("b").inside(0), "x")


class Rights(Case):
    def test_one_on_its_way_is_made_anew(self):
        world = run(World(LINE, ["d", "c"]), ("want", "c", "x", 0), ("come", "c", "d"))
        self.same(world.put(("mend", [], [])), [
            ("mend", [], []), ("lost", "d", "c", 0, "right"), ("anew", 0, "a"), ("sends", "c", "b", 0, "ask")])
        self.same(world.house("a").arrow(0), None)
        self.same([world.house(house).arrow(1) for house in LINE.houses()], ["b", "c", None, "c"])

    def test_one_that_was_lost_is_made_anew(self):
        world = run(World(LINE, ["d"]), ("want", "c", "x", 0), ("come", "c", "d"), ("cut", "c", "d"))
        self.same(world.put(("mend", [], [])), [("mend", [], []), ("anew", 0, "a"), ("sends", "c", "b", 0, "ask")])

    def test_in_the_first_house_of_the_tree_as_it_then_is(self):
        world = run(World(LINE, ["a", "a"]), ("fall", "a"))
        self.same(world.put(("mend", [], ["a"])), [("mend", [], ["a"]), ("anew", 0, "b"), ("anew", 1, "b")])
        self.same([world.house(house).arrow(1) for house in ("b", "c", "d")], [None, "b", "c"])

    def test_in_a_house_that_fell_and_is_not_kept(self):
        world = run(World(LINE, ["a"]), ("want", "a", "x", 0), ("fall", "a"))
        self.same(world.put(("mend", [], [])), [("mend", [], []), ("anew", 0, "a")])
        self.same(house_told(world.house("a"), 1), ([], [(None, [], None, False)]))

    def test_in_turn_some_kept_and_some_anew(self):
        world = run(World(LINE, ["b", "c", "b", "d"]), ("fall", "b"), ("fall", "d"))
        self.same(world.put(("mend", ["d"], [])), [("mend", ["d"], []), ("anew", 0, "a"), ("anew", 2, "a")])
        self.same([[world.house(house).arrow(right) for house in LINE.houses()] for right in range(4)], [
            [None, "a", "b", "c"], ["b", "c", None, "c"], [None, "a", "b", "c"], ["b", "c", "d", None]])

    def test_who_is_inside_stays_so_wherever_it_is(self):
        world = run(
            World(LINE, ["a", "b"]), ("want", "a", "x", 0), ("want", "b", "y", 1), ("want", "a", "z", 1),
            ("come", "a", "b"), ("fall", "a"))
        self.same(world.put(("mend", ["a"], [])), [("mend", ["a"], []), ("sends", "a", "b", 1, "ask")])
        self.same(seat_told(world.house("a"), 0), (None, [], "x", False))
        self.same(seat_told(world.house("b"), 1), (None, [], "y", False))
        self.same(world.put(("done", "a", "x")), [("done", "a", "x")])


class MovesOn(Case):
    def test_askers_in_their_order_and_houses_gone(self):
        world = run(
            World(STAR, ["m"]), ("want", "m", "x", 0), ("want", "m", "z", 0), ("want", "a", "q", 0), ("come", "a", "m"),
            ("want", "m", "b", 0), ("want", "z", "q", 0), ("come", "z", "m"), ("want", "m", "a", 0))
        self.same(world.house("m").row(0), [
            ("asker", "z"), ("house", "a"), ("asker", "b"), ("house", "z"), ("asker", "a")])
        self.same(world.put(("mend", [], [])), [
            ("mend", [], []), ("sends", "a", "m", 0, "ask"), ("sends", "z", "m", 0, "ask")])
        self.same(seat_told(world.house("m"), 0), (
            None, [("asker", "z"), ("asker", "b"), ("asker", "a")], "x", False))

    def test_once_at_each_house_for_each_right(self):
        world = run(
            World(LINE, ["d", "d", "d"]), ("want", "d", "x", 0), ("want", "d", "y", 1), ("want", "b", "u", 2),
            ("want", "b", "v", 0), ("want", "b", "w", 1), ("want", "a", "u", 1), ("want", "a", "v", 0),
            ("want", "b", "y", 0), ("fall", "d"))
        self.same(world.put(("mend", [], ["d"])), [
            ("mend", [], ["d"]), ("lost", "a", "b", 1, "ask"), ("lost", "a", "b", 0, "ask"),
            ("lost", "b", "c", 2, "ask"), ("lost", "b", "c", 0, "ask"), ("lost", "b", "c", 1, "ask"),
            ("anew", 0, "a"), ("anew", 1, "a"), ("anew", 2, "a"), ("given", "a", "v", 0), ("given", "a", "u", 1),
            ("sends", "b", "a", 0, "ask"), ("sends", "b", "a", 1, "ask"), ("sends", "b", "a", 2, "ask")])
        self.same(world.letters("b", "a"), [(0, "ask"), (1, "ask"), (2, "ask")])
        self.same(seat_told(world.house("b"), 0), ("a", [("asker", "v"), ("asker", "y")], None, True))

    def test_one_that_has_asked_asks_anew(self):
        world = run(World(LINE, ["a"]), ("want", "c", "x", 0), ("come", "c", "b"))
        self.same(world.house("b").has_asked(0), True)
        self.same(world.put(("mend", [], [])), [
            ("mend", [], []), ("lost", "b", "a", 0, "ask"), ("sends", "c", "b", 0, "ask")])
        self.same(seat_told(world.house("b"), 0), ("a", [], None, False))
        self.same(world.put(("come", "c", "b")), [("come", "c", "b"), ("sends", "b", "a", 0, "ask")])

    def test_one_that_has_asked_for_nobody_asks_no_more(self):
        world = run(World(LINE, ["a"]), ("want", "c", "x", 0), ("leave", "c", "x"))
        self.same(world.put(("mend", [], [])), [("mend", [], []), ("lost", "c", "b", 0, "ask")])
        self.same(seat_told(world.house("c"), 0), ("b", [], None, False))


class MendsRefused(Case):
    def worlds(self):
        """A world with nothing down, one with c and d down, and one with all down."""
        return [
            World(LINE, ["a"]),
            run(World(LINE, ["a"]), ("want", "b", "x", 0), ("fall", "c"), ("fall", "d"), ("cut", "a", "b")),
            run(World(LINE, ["a"]), *[("fall", house) for house in LINE.houses()]),
        ]

    def test_what_is_no_list_of_names(self):
        odd = [None, "", "c", ("c",), {"c": "d"}] + [thing for thing in other_kinds() if type(thing) is not list]
        odd += [[thing] for thing in no_names_nor_none()] + [["c", thing] for thing in no_names_nor_none()]
        odd += [[thing, "c"] for thing in no_names_nor_none()]
        for world in self.worlds():
            for thing in odd:
                for good in ([], ["c"], ["nobody"], ["a", "a"]):
                    self.refuse(NoRow, world, world.put, ("mend", thing, good))
                    self.refuse(NoRow, world, world.put, ("mend", good, thing))
                self.refuse(NoRow, world, world.put, ("mend", thing, thing))

    def test_a_name_twice(self):
        for world in self.worlds():
            for twice in (["c", "c"], ["c", "d", "c"]):
                self.refuse(NoMend, world, world.put, ("mend", twice, []))
                self.refuse(NoMend, world, world.put, ("mend", [], twice))

    def test_a_name_in_both(self):
        for world in self.worlds():
            for kept, out in ((["c"], ["c"]), (["c", "d"], ["d"]), (["d"], ["c", "d"]), (["c", "d"], ["d", "c"])):
                self.refuse(NoMend, world, world.put, ("mend", kept, out))

    def test_a_house_that_is_not_down(self):
        for world in self.worlds()[:2]:
            for told in (["a"], ["c", "a"], ["b", "d"]):
                self.refuse(NoMend, world, world.put, ("mend", told, []))
                self.refuse(NoMend, world, world.put, ("mend", [], told))
                self.refuse(NoMend, world, world.put, ("mend", [], ["a", "b", "c", "d"]))

    def test_a_name_of_no_house(self):
        for world in self.worlds():
            for told in (["e"], ["c", "nobody"], ["x"]):
                self.refuse(NoMend, world, world.put, ("mend", told, []))
                self.refuse(NoMend, world, world.put, ("mend", [], told))

    def test_a_house_that_was_left_out(self):
        world = run(self.worlds()[1], ("mend", [], ["c"]))
        self.refuse(NoMend, world, world.put, ("mend", ["c"], []))
        self.refuse(NoMend, world, world.put, ("mend", [], ["c"]))

    def test_an_out_of_all_houses(self):
        world = self.worlds()[2]
        self.refuse(NoMend, world, world.put, ("mend", [], ["a", "b", "c", "d"]))
        self.refuse(NoMend, world, world.put, ("mend", [], ["d", "b", "c", "a"]))
        self.same(world.put(("mend", [], ["d", "b", "c"])), [("mend", [], ["d", "b", "c"]), ("anew", 0, "a")])
        self.same(world.tree().houses(), ["a"])

    def test_all_houses_kept(self):
        world = self.worlds()[2]
        self.same(world.put(("mend", ["d", "b", "c", "a"], [])), [("mend", ["d", "b", "c", "a"], [])])
        self.same(world.tree().ties(), LINE.ties())


class WhileDown(Case):
    def test_all_else_goes_on(self):
        world = run(World(LINE, ["c", "a"]), ("fall", "a"))
        self.same(world.put(("want", "b", "x", 0)), [("want", "b", "x", 0), ("sends", "b", "c", 0, "ask")])
        self.same(world.put(("come", "b", "c")), [("come", "b", "c"), ("sends", "c", "b", 0, "right")])
        self.same(world.put(("want", "c", "y", 0)), [("want", "c", "y", 0), ("sends", "c", "b", 0, "ask")])
        self.same(world.put(("come", "c", "b")), [("come", "c", "b"), ("given", "b", "x", 0)])
        self.same(world.put(("come", "c", "b")), [("come", "c", "b")])
        self.same(world.put(("cut", "c", "d")), [("cut", "c", "d")])
        self.same(world.put(("done", "b", "x")), [("done", "b", "x"), ("sends", "b", "c", 0, "right")])
        self.same(world.put(("leave", "c", "y")), [("leave", "c", "y")])
        self.same(world.put(("come", "b", "c")), [("come", "b", "c")])

    def test_a_right_in_a_house_that_is_down_is_there_again_where_it_is_kept(self):
        world = run(World(LINE, ["b"]), ("want", "b", "x", 0), ("fall", "b"))
        self.same(world.put(("want", "a", "y", 0)), [
            ("want", "a", "y", 0), ("sends", "a", "b", 0, "ask"), ("lost", "a", "b", 0, "ask")])
        self.same(world.put(("mend", ["b"], [])), [("mend", ["b"], []), ("sends", "a", "b", 0, "ask")])
        self.same(seat_told(world.house("b"), 0), (None, [], "x", False))
        self.same(world.put(("come", "a", "b")), [("come", "a", "b")])
        self.same(world.put(("done", "b", "x")), [("done", "b", "x"), ("sends", "b", "a", 0, "right")])


if __name__ == "__main__":
    unittest.main()
