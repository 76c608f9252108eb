"""Chains, who may go ahead, and the letters that were sent."""

import unittest

from helper import ASKERS, Case, Moments, no_names_nor_none, run, world_told
from treeright.chains import ahead, chain, is_whole_chain, letters_sent
from treeright.errors import Down, NoAsker, NoHouse
from treeright.trees import Tree
from treeright.world import World

LINE = Tree(["a", "b", "c", "d"], [("a", "b"), ("b", "c"), ("c", "d")])
STAR = Tree(["a", "b", "c", "hub"], [("hub", "a"), ("hub", "b"), ("hub", "c")])
# On a's side of its tie to hub lie a, e, f and g; e has f behind it, f has g.
DEEP = Tree(["a", "b", "e", "f", "g", "hub"], [("hub", "a"), ("hub", "b"), ("a", "e"), ("e", "f"), ("f", "g")])

LED = [("want", "a", "x", 0), ("want", "d", "y", 0), ("come", "d", "c"), ("come", "c", "b"), ("come", "b", "a")]


def led(steps, *rows):
    """A line in whose house a the asker x is inside; y of d has wanted, and so many of its asks have come in."""
    return run(World(LINE, ["a", "d"]), *LED[:2 + steps], *rows)


class ChainCase(Case):
    def chained(self, world, house, asker, due, whole):
        self.same(chain(world, house, asker), due)
        self.same(is_whole_chain(world, house, asker), whole)
        if not whole:
            self.same(ahead(world, house, asker), None)


class Chain(ChainCase):
    def test_of_one_house_that_has_the_right(self):
        world = run(World(LINE, ["b"]), ("want", "b", "x", 0), ("want", "b", "y", 0), ("want", "b", "z", 0))
        self.chained(world, "b", "y", ["b"], True)
        self.chained(world, "b", "z", ["b"], True)

    def test_grows_as_the_asks_come_in(self):
        self.chained(led(0), "d", "y", ["d"], False)
        self.chained(led(1), "d", "y", ["d", "c"], False)
        self.chained(led(2), "d", "y", ["d", "c", "b"], False)
        self.chained(led(3), "d", "y", ["d", "c", "b", "a"], True)

    def test_shrinks_as_the_right_comes(self):
        world = led(3, ("done", "a", "x"))
        self.same(world.letters("a", "b"), [(0, "right")])
        self.chained(world, "d", "y", ["d", "c", "b"], False)
        self.chained(run(world, ("come", "a", "b")), "d", "y", ["d", "c"], False)
        self.chained(run(world, ("come", "b", "c")), "d", "y", ["d"], False)

    def test_ends_where_the_right_has_come_to(self):
        world = led(2, ("want", "b", "z", 0), ("want", "b", "w", 0), ("come", "b", "a"), ("done", "a", "x"))
        self.chained(world, "d", "y", ["d", "c", "b"], False)
        self.chained(world, "b", "z", ["b"], False)
        run(world, ("come", "a", "b"), ("come", "b", "c"), ("come", "c", "d"))
        self.chained(world, "b", "z", ["b", "c", "d"], True)
        run(world, ("done", "d", "y"))
        self.chained(world, "b", "z", ["b", "c"], False)
        run(world, ("come", "d", "c"), ("come", "c", "b"))
        self.same(world.house("b").inside(0), "z")
        self.chained(world, "b", "w", ["b"], True)

    def test_behind_a_right_that_is_sent_with_back(self):
        rows = [("want", "b", "x", 0), ("want", "c", "y", 0), ("come", "c", "b"), ("want", "b", "z", 0)]
        world = run(World(LINE, ["b"]), *rows, ("done", "b", "x"))
        self.same(world.letters("b", "c"), [(0, "back")])
        self.chained(world, "b", "z", ["b"], False)
        self.chained(world, "c", "y", ["c"], False)
        self.chained(run(world, ("come", "b", "c")), "b", "z", ["b", "c"], True)

    def test_goes_by_the_right_for_which_it_waits(self):
        rows = [
            ("want", "d", "z", 1), ("want", "a", "q", 1), ("come", "a", "b"), ("come", "b", "c"), ("come", "c", "d")]
        world = led(3, *rows)
        self.chained(world, "d", "y", ["d", "c", "b", "a"], True)
        self.chained(world, "a", "q", ["a", "b", "c", "d"], True)
        world = led(3, *rows[:3])
        self.chained(world, "a", "q", ["a", "b"], False)

    def test_of_an_asker_in_the_midst(self):
        world = led(2, ("want", "c", "z", 0))
        self.chained(world, "c", "z", ["c", "b"], False)
        self.chained(run(world, ("come", "b", "a")), "c", "z", ["c", "b", "a"], True)

    def test_of_one_that_wants_any_right(self):
        world = run(World(LINE, ["a"]), ("want", "a", "x", None), ("want", "b", "y", None), ("come", "b", "a"))
        self.chained(world, "b", "y", ["b", "a"], True)

    def test_ends_ahead_of_a_house_that_is_down(self):
        self.chained(led(3, ("fall", "a")), "d", "y", ["d", "c", "b"], False)
        self.chained(led(3, ("fall", "b")), "d", "y", ["d", "c"], False)
        self.chained(led(3, ("fall", "c")), "d", "y", ["d"], False)
        self.chained(led(3, ("fall", "b"), ("fall", "a")), "d", "y", ["d", "c"], False)

    def test_goes_over_ties_that_are_down(self):
        for ties in ([("a", "b")], [("b", "c")], [("d", "c")], [("a", "b"), ("c", "b"), ("c", "d")]):
            world = led(3, *[("cut", *tie) for tie in ties])
            self.chained(world, "d", "y", ["d", "c", "b", "a"], True)
            self.same(ahead(world, "d", "y"), 1)

    def test_ends_where_an_ask_was_lost(self):
        self.chained(led(2, ("cut", "a", "b")), "d", "y", ["d", "c", "b"], False)
        self.chained(led(1, ("fall", "b")), "d", "y", ["d", "c"], False)

    def test_ends_where_the_right_was_lost(self):
        world = led(3, ("done", "a", "x"), ("cut", "a", "b"))
        self.chained(world, "d", "y", ["d", "c", "b"], False)

    def test_behind_a_mending(self):
        world = led(3, ("fall", "b"), ("mend", [], ["b"]))
        self.chained(world, "d", "y", ["d"], False)
        self.chained(run(world, ("come", "d", "c"), ("come", "c", "a")), "d", "y", ["d", "c", "a"], True)

    def test_of_the_only_house(self):
        world = run(World(Tree(["a"], []), ["a"]), ("want", "a", "x", 0), ("want", "a", "y", 0))
        self.chained(world, "a", "y", ["a"], True)
        self.same(ahead(world, "a", "y"), 1)

    def test_of_twelve_houses(self):
        houses = list("abcdefghijkl")
        world = run(World(Tree(houses, list(zip(houses, houses[1:]))), ["a"]), ("want", "a", "x", 0))
        world.put(("want", "l", "y", 0))
        for at in range(11, 0, -1):
            self.chained(world, "l", "y", houses[at:][::-1], False)
            world.put(("come", houses[at], houses[at - 1]))
        self.chained(world, "l", "y", houses[::-1], True)


class Refused(ChainCase):
    deeds = (chain, is_whole_chain, ahead)

    def test_what_is_no_house_ahead_of_all(self):
        world = led(3, ("fall", "c"))
        for deed in self.deeds:
            for thing in ["e", "zz"] + no_names_nor_none():
                for asker in ("y", "x", "nobody", None, ["y"]):
                    self.refuse(NoHouse, world, deed, world, thing, asker)

    def test_a_house_that_is_down_ahead_of_the_asker(self):
        world = led(3, ("want", "c", "z", 0), ("fall", "c"))
        for deed in self.deeds:
            for asker in ["z", "y", "x", "nobody"] + no_names_nor_none():
                self.refuse(Down, world, deed, world, "c", asker)

    def test_a_house_that_was_left_out(self):
        world = led(3, ("fall", "c"), ("mend", [], ["c"]))
        for deed in self.deeds:
            self.refuse(NoHouse, world, deed, world, "c", "y")

    def test_an_asker_that_does_not_wait_there(self):
        world = led(3, ("want", "b", "z", 0), ("want", "b", "w", 1), ("leave", "b", "w"))
        ahead_of_all = world_told(world, 2)
        for deed in self.deeds:
            self.refuse(NoAsker, world, deed, world, "a", "x")
            for house, asker in (("a", "y"), ("b", "y"), ("c", "y"), ("d", "x"), ("d", "z"), ("b", "w"), ("c", "q")):
                self.refuse(NoAsker, world, deed, world, house, asker)
            # Houses wait in these rows, but they are no askers.
            self.refuse(NoAsker, world, deed, world, "a", "b")
            self.refuse(NoAsker, world, deed, world, "c", "d")
            for thing in no_names_nor_none():
                for house in ("a", "b", "d"):
                    self.refuse(NoAsker, world, deed, world, house, thing)
        self.same(world_told(world, 2), ahead_of_all)

    def test_one_that_was_given_it_or_has_left(self):
        world = run(World(LINE, ["a"]), ("want", "a", "x", 0), ("want", "a", "y", 0))
        self.same(chain(world, "a", "y"), ["a"])
        run(world, ("done", "a", "x"))
        for deed in self.deeds:
            self.refuse(NoAsker, world, deed, world, "a", "x")
            self.refuse(NoAsker, world, deed, world, "a", "y")


class Ahead(Case):
    def crowded(self, *rows):
        """A star: x is inside at hub, where wait, in this order: a with three askers behind it, p, b with r and s."""
        return run(
            World(DEEP, ["hub", "hub"]), ("want", "hub", "x", 0), ("want", "a", "k", 0), ("come", "a", "hub"),
            ("want", "g", "l", 0), ("want", "e", "m", 0), ("want", "hub", "p", 0),
            ("want", "b", "r", 0), ("want", "b", "s", 0), ("come", "b", "hub"), *rows)

    def test_askers_ahead_in_the_first_row(self):
        world = run(World(LINE, ["b"]), *[("want", "b", name, 0) for name in "wxyz"])
        self.same([ahead(world, "b", name) for name in "xyz"], [1, 2, 3])
        run(world, ("done", "b", "w"))
        self.same([ahead(world, "b", name) for name in "yz"], [1, 2])
        run(world, ("leave", "b", "y"))
        self.same(ahead(world, "b", "z"), 1)

    def test_houses_ahead_in_the_first_row(self):
        world = self.crowded()
        self.same(ahead(world, "hub", "p"), 1 + 3)

    def test_those_ahead_in_later_rows(self):
        world = self.crowded()
        self.same(ahead(world, "a", "k"), 1)
        self.same(ahead(world, "b", "r"), 1 + 3 + 1)
        self.same(ahead(world, "b", "s"), 1 + 3 + 1 + 1)
        self.same([ahead(world, "g", "l"), ahead(world, "e", "m")], [None, None])
        run(world, ("come", "e", "a"))
        self.same(ahead(world, "e", "m"), 1 + 1)
        run(world, ("come", "g", "f"), ("come", "f", "e"))
        self.same(ahead(world, "g", "l"), 1 + 1 + 1)

    def test_counts_as_it_is_now(self):
        world = self.crowded(("want", "f", "n", 0), ("want", "a", "o", 0))
        self.same(ahead(world, "hub", "p"), 1 + 5)
        run(world, ("leave", "a", "k"), ("leave", "g", "l"))
        self.same(ahead(world, "hub", "p"), 1 + 3)
        run(world, ("leave", "a", "o"), ("leave", "e", "m"), ("leave", "f", "n"))
        self.same(ahead(world, "hub", "p"), 1)
        self.same(ahead(world, "b", "r"), 1 + 1)

    def test_counts_nobody_behind(self):
        world = self.crowded(("want", "hub", "q", 0), ("want", "b", "t", 0))
        self.same(ahead(world, "hub", "p"), 1 + 3)
        self.same(ahead(world, "b", "r"), 1 + 3 + 1)
        self.same(ahead(world, "hub", "q"), 1 + 3 + 1 + 3)

    def test_counts_for_this_right_alone(self):
        world = self.crowded(("want", "hub", "y", 1), ("want", "a", "o", 1), ("want", "hub", "u", 1))
        self.same(ahead(world, "hub", "p"), 1 + 3)
        self.same(ahead(world, "hub", "u"), 1)
        run(world, ("come", "a", "hub"))
        self.same([ahead(world, "a", "o"), ahead(world, "hub", "u")], [2, 1])

    def test_counts_no_one_who_is_inside_elsewhere(self):
        world = self.crowded(("want", "a", "y", 1), ("come", "a", "hub"), ("come", "hub", "a"))
        self.same(world.house("a").inside(1), "y")
        self.same(ahead(world, "hub", "p"), 1 + 3)

    def test_counts_on_that_side_of_the_tie_alone(self):
        world = run(
            World(STAR, ["hub"]), ("want", "hub", "x", 0), ("want", "a", "k", 0), ("want", "b", "l", 0),
            ("want", "b", "m", 0), ("want", "c", "n", 0), ("come", "b", "hub"), ("come", "c", "hub"),
            ("come", "a", "hub"))
        self.same([ahead(world, *one) for one in (("b", "l"), ("b", "m"), ("c", "n"), ("a", "k"))], [1, 2, 3, 4])

    def test_counts_in_houses_that_are_up_alone(self):
        self.same(ahead(self.crowded(("fall", "a")), "hub", "p"), 1 + 2)
        self.same(ahead(self.crowded(("fall", "f")), "hub", "p"), 1 + 3)
        self.same(ahead(self.crowded(("fall", "g")), "hub", "p"), 1 + 2)
        self.same(ahead(self.crowded(("fall", "a"), ("fall", "e"), ("fall", "g")), "hub", "p"), 1)
        self.same(ahead(self.crowded(("fall", "hub")), "b", "r"), None)

    def test_counts_over_ties_that_are_down(self):
        world = self.crowded(("cut", "a", "hub"), ("cut", "b", "hub"), ("cut", "a", "e"))
        self.same([ahead(world, "hub", "p"), ahead(world, "b", "s")], [4, 6])

    def test_where_nobody_is_inside(self):
        # Without anyone inside the right is on its way on, so a chain is whole there only while it can't go on.
        world = run(World(STAR, ["hub"]), ("want", "a", "k", 0), ("come", "a", "hub"), ("come", "hub", "a"))
        run(world, ("want", "b", "l", 0), ("come", "b", "hub"), ("come", "hub", "a"))
        self.same(ahead(world, "b", "l"), 1)
        self.same(chain(world, "b", "l"), ["b", "hub", "a"])
        run(world, ("done", "a", "k"))
        self.same(ahead(world, "b", "l"), None)

    def test_of_fifty_askers(self):
        names = [first + second for first in "abcde" for second in "abcdefghij"]
        world = run(World(LINE, ["b"]), *[("want", "b", name, 0) for name in names])
        self.same([ahead(world, "b", name) for name in names[1:]], list(range(1, 50)))


class LettersSent(Case):
    def test_of_no_lines(self):
        self.same(letters_sent([]), {})
        self.same(letters_sent(World(LINE, ["a"]).book()), {})

    def test_of_lines_by_which_none_is_sent(self):
        world = run(World(LINE, ["a"]), ("want", "a", "x", 0), ("done", "a", "x"), ("fall", "a"), ("mend", [], []))
        self.same(letters_sent(world.book()), {})
        lines = [("lost", "a", "b", 0, "ask"), ("come", "a", "b"), ("given", "a", "sends", 0), ("anew", 0, "sends")]
        self.same(letters_sent(lines), {})

    def test_of_each_word(self):
        world = led(3)
        self.same(letters_sent(world.book()), {(0, "ask"): 3})
        run(world, ("done", "a", "x"))
        self.same(letters_sent(world.book()), {(0, "ask"): 3, (0, "right"): 1})
        run(world, ("want", "b", "z", 0), ("come", "a", "b"))
        self.same(letters_sent(world.book()), {(0, "ask"): 3, (0, "right"): 1, (0, "back"): 1})

    def test_of_several_rights(self):
        world = led(3, ("done", "a", "x"), ("want", "a", "q", 1), ("come", "a", "b"), ("want", "b", "q", 1))
        self.same(letters_sent(world.book()), {(0, "ask"): 3, (0, "right"): 2, (1, "ask"): 2})

    def test_of_a_part_of_a_book_and_of_single_lines(self):
        book = led(3).book()
        self.same(letters_sent(book[:4]), {(0, "ask"): 1})
        self.same(letters_sent([("sends", "a", "b", 3, "back")] * 12), {(3, "back"): 12})

    def test_those_lost_at_once_were_sent(self):
        world = run(World(LINE, ["a"]), ("fall", "a"), ("want", "b", "x", 0))
        self.same(world.book()[-1], ("lost", "b", "a", 0, "ask"))
        self.same(letters_sent(world.book()), {(0, "ask"): 1})

    def test_of_a_mending(self):
        world = led(3, ("fall", "b"))
        self.same(letters_sent(world.put(("mend", ["b"], []))), {(0, "ask"): 1})


class Own(Case):
    def test_what_is_told_is_the_askers_own(self):
        for world in (led(0), led(3), led(3, ("fall", "b"))):
            self.own(lambda: chain(world, "d", "y"))
            book = world.book()
            self.own(lambda: letters_sent(book))

    def test_asking_changes_nothing(self):
        world = led(3, ("want", "b", "z", 0), ("cut", "b", "c"))
        told = world_told(world, 2)
        for deed in (chain, is_whole_chain, ahead):
            deed(world, "d", "y")
            deed(world, "b", "z")
        self.same(world_told(world, 2), told)

    def test_lines_that_are_handed_in_are_not_changed(self):
        lines = led(3, ("fall", "b"), ("mend", ["b"], [])).book()
        handed = led(3, ("fall", "b"), ("mend", ["b"], [])).book()
        letters_sent(lines)
        self.same(lines, handed)


def due_chain(plain, house, right):
    """The chain from a house on, by point 26."""
    seat = plain.homes[house].seats[right]
    after = seat["arrow"]
    if not seat["asked"] or after in plain.down or ("house", house) not in plain.homes[after].seats[right]["row"]:
        return [house]
    return [house] + due_chain(plain, after, right)


def beyond(plain, house, neighbour):
    """The houses on a neighbour's side of a tie, found by going on from it and never back."""
    others = [name for name in plain.tree.neighbours(neighbour) if name != house]
    return [neighbour] + [far for name in others for far in beyond(plain, neighbour, name)]


def due_ahead(plain, house, asker, right):
    """How many may go ahead, by point 27."""
    houses = due_chain(plain, house, right)
    last = plain.homes[houses[-1]].seats[right]
    if last["arrow"] is not None:
        return None
    many = int(last["inside"] is not None)
    for here, leading in zip(houses, [("asker", asker)] + [("house", name) for name in houses]):
        for one in plain.homes[here].seats[right]["row"]:
            if one == leading:
                break
            sides = beyond(plain, here, one[1]) if one[0] == "house" else []
            many += one[0] == "asker"
            many += sum(kind == "asker" for name in sides if name not in plain.down
                        for kind, unused in plain.homes[name].seats[right]["row"])
    return many


class AsThePointsTell(Moments):
    def check_moment(self, world, plain, seen):
        for house in [house for house in plain.tree.houses() if house not in plain.down]:
            waiting = plain.homes[house].askers()
            for asker in ASKERS:
                if asker not in waiting or not waiting[asker][1]:
                    for deed in (chain, is_whole_chain, ahead):
                        self.assertRaises(NoAsker, deed, world, house, asker)
                    continue
                right = waiting[asker][0]
                due, many = due_chain(plain, house, right), due_ahead(plain, house, asker, right)
                self.same(chain(world, house, asker), due)
                self.same(is_whole_chain(world, house, asker), many is not None)
                self.same(ahead(world, house, asker), many)
                seen.add((len(due), many))

    def test_in_runs_without_falls(self):
        seen = set()
        for seed in range(900, 920):
            for world, plain, row in self.drawn(seed, 120, 0, 9):
                self.check_moment(world, plain, seen)
        self.assertGreater(max(length for length, many in seen), 4)
        self.assertGreater(max(many or 0 for length, many in seen), 9)

    def test_in_runs_with_falls(self):
        seen = set()
        for seed in range(920, 950):
            for world, plain, row in self.drawn(seed, 120, 0.06, 9):
                self.check_moment(world, plain, seen)
        self.assertGreater(max(length for length, many in seen), 3)

    def test_letters_in_runs(self):
        for seed in range(950, 960):
            for world, plain, row in self.drawn(seed, 100, 0.05):
                pass
            lines = [line for line in plain.book if line[0] == "sends"]
            due = {}
            for one, two, three, right, word in lines:
                due[(right, word)] = len([line for line in lines if line[3:] == (right, word)])
            self.same(letters_sent(world.book()), due)


if __name__ == "__main__":
    unittest.main()
