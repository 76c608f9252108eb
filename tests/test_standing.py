import itertools
import unittest

from helper import Case, no_names_nor_none, no_rights, run
from treeright.errors import Down, NoHouse, NoRight
from treeright.standing import arrows, lead, where
from treeright.trees import Tree
from treeright.world import World

ONE = Tree(["a"], [])
TWO = Tree(["a", "b"], [("a", "b")])
LINE = Tree(["a", "b", "c", "d"], [("a", "b"), ("b", "c"), ("c", "d")])
STAR = Tree(["a", "b", "c", "hub"], [("hub", "a"), ("hub", "b"), ("hub", "c")])


def on_its_way(back=False):
    """A line in which the right 0 is on its way from b to c, with back or without; the right 1 is in d."""
    rows = [("want", "b", "x", 0), ("want", "c", "y", 0), ("come", "c", "b")]
    return run(World(LINE, ["b", "d"]), *rows, *([("want", "b", "z", 0)] if back else []), ("done", "b", "x"))


class Where(Case):
    def test_in_each_house_with_nobody_inside(self):
        for tree in (ONE, TWO, LINE, STAR):
            for place in tree.houses():
                self.same(where(World(tree, [place]), 0), ("house", place, None))

    def test_in_a_house_with_an_asker_inside(self):
        world = run(World(LINE, ["b", "d"]), ("want", "d", "x", 1), ("want", "d", "y", 1))
        self.same(where(world, 1), ("house", "d", "x"))
        self.same(where(world, 0), ("house", "b", None))
        self.same(where(run(world, ("done", "d", "x")), 1), ("house", "d", "y"))
        self.same(where(run(world, ("done", "d", "y")), 1), ("house", "d", None))

    def test_on_its_way_with_back_and_without(self):
        for back in (True, False):
            world = on_its_way(back)
            self.same(world.letters("b", "c"), [(0, "back" if back else "right")])
            self.same(where(world, 0), ("way", "b", "c"))
            self.same(where(world, 1), ("house", "d", None))
            self.same(where(run(world, ("come", "b", "c")), 0), ("house", "c", "y"))

    def test_on_its_way_from_the_greater_name_to_the_lesser_one(self):
        world = run(World(LINE, ["c"]), ("want", "b", "x", 0), ("come", "b", "c"))
        self.same(where(world, 0), ("way", "c", "b"))

    def test_on_its_way_behind_other_letters(self):
        world = run(
            World(TWO, ["b", "a", "a"]), ("want", "a", "w", 0), ("want", "b", "x", 1), ("want", "b", "y", 2),
            ("come", "b", "a"), ("come", "b", "a"))
        self.same(world.letters("a", "b"), [(0, "ask"), (1, "right"), (2, "right")])
        self.same([where(world, right) for right in (0, 1, 2)], [
            ("house", "b", None), ("way", "a", "b"), ("way", "a", "b")])

    def test_an_ask_is_not_the_right(self):
        world = run(World(LINE, ["a"]), ("want", "c", "x", 0), ("come", "c", "b"))
        self.same(world.letters("b", "a"), [(0, "ask")])
        self.same(where(world, 0), ("house", "a", None))
        self.same(where(run(world, ("fall", "d")), 0), ("house", "a", None))

    def test_an_ask_on_its_way_while_the_right_is_lost(self):
        world = run(World(LINE, ["a"]), ("fall", "a"), ("want", "d", "x", 0))
        self.same(world.letters("d", "c"), [(0, "ask")])
        self.same(where(world, 0), ("lost",))

    def test_lost_on_its_way(self):
        for row in (("fall", "c"), ("fall", "b"), ("cut", "b", "c"), ("cut", "c", "b")):
            for back in (True, False):
                world = run(on_its_way(back), row)
                self.same(where(world, 0), ("lost",))
                self.same(where(world, 1), ("house", "d", None))

    def test_not_lost_by_what_is_down_elsewhere(self):
        for row in (("fall", "a"), ("fall", "d"), ("cut", "a", "b"), ("cut", "c", "d")):
            self.same(where(run(on_its_way(), row), 0), ("way", "b", "c"))

    def test_lost_as_it_is_sent(self):
        rows = [("want", "b", "x", 0), ("want", "c", "y", 0), ("come", "c", "b")]
        for row in (("fall", "c"), ("cut", "c", "b")):
            world = run(World(LINE, ["b"]), *rows, row)
            self.same(where(world, 0), ("house", "b", "x"))
            self.same(where(run(world, ("done", "b", "x")), 0), ("lost",))

    def test_in_a_house_that_is_down(self):
        world = run(World(LINE, ["b", "b"]), ("want", "b", "x", 0), ("fall", "b"))
        self.same([where(world, 0), where(world, 1)], [("lost",), ("lost",)])
        self.same(where(run(world, ("mend", ["b"], [])), 0), ("house", "b", "x"))
        self.same(where(run(world, ("fall", "b"), ("mend", [], [])), 0), ("house", "a", None))

    def test_all_down(self):
        world = run(World(ONE, ["a"]), ("fall", "a"))
        self.same(where(world, 0), ("lost",))
        self.refuse(NoRight, world, where, world, 1)

    def test_lost_until_a_mending(self):
        world = run(on_its_way(), ("fall", "c"), ("want", "a", "q", 0), ("want", "d", "q", 0), ("come", "a", "b"))
        self.same(where(world, 0), ("lost",))
        self.same(where(run(world, ("mend", [], [])), 0), ("house", "a", "q"))


class Arrows(Case):
    def test_at_first(self):
        world = World(LINE, ["b", "d"])
        self.same(arrows(world, 0), {"a": "b", "b": None, "c": "b", "d": "c"})
        self.same(arrows(world, 1), {"a": "b", "b": "c", "c": "d", "d": None})
        self.same(arrows(World(ONE, ["a"]), 0), {"a": None})

    def test_on_its_way(self):
        self.same(arrows(on_its_way(), 0), {"a": "b", "b": "c", "c": "b", "d": "c"})

    def test_of_houses_that_are_up_alone(self):
        world = run(World(LINE, ["b"]), ("fall", "b"), ("cut", "c", "d"))
        self.same(arrows(world, 0), {"a": "b", "c": "b", "d": "c"})
        self.same(arrows(run(world, ("fall", "a"), ("fall", "c"), ("fall", "d")), 0), {})
        self.refuse(NoRight, world, arrows, world, 1)

    def test_behind_a_mending(self):
        world = run(World(STAR, ["hub"]), ("fall", "hub"), ("mend", [], ["hub"]))
        self.same(arrows(world, 0), {"a": None, "b": "a", "c": "a"})


class Lead(Case):
    def test_to_where_the_right_is(self):
        world = World(LINE, ["b"])
        self.same([lead(world, house, 0) for house in LINE.houses()], [["a", "b"], ["b"], ["c", "b"], ["d", "c", "b"]])
        self.same(lead(World(ONE, ["a"]), "a", 0), ["a"])
        world = run(World(LINE, ["a"]), ("want", "a", "x", 0))
        self.same(lead(world, "d", 0), ["d", "c", "b", "a"])

    def test_each_road_at_first(self):
        for tree in (ONE, TWO, LINE, STAR):
            for place, house in itertools.product(tree.houses(), repeat=2):
                self.same(lead(World(tree, [place]), house, 0), tree.road(house, place))

    def test_to_both_houses_of_the_tie_on_which_it_is(self):
        for back in (True, False):
            world = on_its_way(back)
            self.same([lead(world, house, 0) for house in LINE.houses()], [
                ["a", "b", "c"], ["b", "c"], ["c", "b"], ["d", "c", "b"]])

    def test_to_two_that_point_at_one_another_though_it_is_lost(self):
        world = run(on_its_way(), ("cut", "b", "c"))
        self.same([lead(world, house, 0) for house in LINE.houses()], [
            ["a", "b", "c"], ["b", "c"], ["c", "b"], ["d", "c", "b"]])

    def test_to_one_that_is_down(self):
        world = run(World(LINE, ["a"]), ("fall", "b"))
        self.same(lead(world, "d", 0), ["d", "c", "b"])
        self.same(lead(world, "c", 0), ["c", "b"])
        self.same(lead(world, "a", 0), ["a"])
        self.same(lead(run(world, ("fall", "c")), "d", 0), ["d", "c"])

    def test_to_one_that_is_down_and_has_the_right(self):
        world = run(World(LINE, ["a"]), ("fall", "a"))
        self.same(lead(world, "d", 0), ["d", "c", "b", "a"])
        self.same(lead(world, "b", 0), ["b", "a"])

    def test_to_one_that_is_down_and_points_back(self):
        world = run(on_its_way(), ("fall", "c"))
        self.same(lead(world, "a", 0), ["a", "b", "c"])
        self.same(lead(world, "d", 0), ["d", "c"])

    def test_over_ties_that_are_down(self):
        world = run(World(LINE, ["a"]), ("cut", "b", "c"), ("cut", "a", "b"))
        self.same(lead(world, "d", 0), ["d", "c", "b", "a"])

    def test_refused_in_their_order(self):
        world = run(World(LINE, ["a", "d"]), ("fall", "c"))
        for thing in ["e", "z"] + no_names_nor_none():
            for right in (0, 2, None, True):
                self.refuse(NoHouse, world, lead, world, thing, right)
        for right in (0, 1, 2, None, True, "a"):
            self.refuse(Down, world, lead, world, "c", right)
        for right in no_rights(2) + [None]:
            for house in ("a", "b", "d"):
                self.refuse(NoRight, world, lead, world, house, right)


class NoRights(Case):
    def test_where_and_arrows(self):
        for many in (1, 2, 4):
            world = World(LINE, ["a"] * many)
            for right in no_rights(many) + [None]:
                self.refuse(NoRight, world, where, world, right)
                self.refuse(NoRight, world, arrows, world, right)


class Own(Case):
    def test_what_is_told_is_the_askers_own(self):
        for world in (World(LINE, ["a", "b"]), on_its_way(), run(on_its_way(), ("fall", "c"))):
            self.own(lambda: arrows(world, 0))
            self.own(lambda: lead(world, "a", 0))
            self.own(lambda: lead(world, "b", 1))

    def test_asking_changes_nothing(self):
        world = run(on_its_way(), ("fall", "a"))
        due = [world.put(("come", "b", "c")), world.book()]
        world = run(on_its_way(), ("fall", "a"))
        for right in (0, 1):
            where(world, right)
            arrows(world, right)
            lead(world, "d", right)
        self.same([world.put(("come", "b", "c")), world.book()], due)


if __name__ == "__main__":
    unittest.main()
