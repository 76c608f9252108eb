import copy
import itertools
import unittest

from helper import NAMES, no_names_nor_none, other_kinds
from treeright.errors import NoHouse, NoTree
from treeright.trees import Tree, is_name, is_whole

# Each with its houses and ties as they are to be told.
ONE = (["a"], [])
TWO = (["a", "b"], [("a", "b")])
LINE = (["a", "b", "c", "d"], [("a", "b"), ("b", "c"), ("c", "d")])
CROSSED_LINE = (["a", "b", "c", "d"], [("a", "d"), ("b", "c"), ("b", "d")])
STAR = (["a", "b", "c", "d", "hub"], [("a", "hub"), ("b", "hub"), ("c", "hub"), ("d", "hub")])
OTHER = (
    ["aa", "ab", "b", "h", "m", "x", "y"],
    [("aa", "m"), ("ab", "h"), ("b", "h"), ("h", "m"), ("m", "x"), ("x", "y")],
)
TWELVE = (
    ["a", "b", "c", "d", "e", "f", "g", "h", "i", "j", "k", "l"],
    [("a", "b"), ("a", "c"), ("b", "d"), ("b", "e"), ("c", "f"), ("c", "g"), ("d", "h"), ("d", "i"), ("e", "j"),
     ("e", "k"), ("f", "l")],
)
TREES = [ONE, TWO, LINE, CROSSED_LINE, STAR, OTHER, TWELVE]


def rings_and_trees(houses):
    """Each choice of one tie fewer than houses, of all ties that there can be."""
    pairs = list(itertools.combinations(houses, 2))
    return itertools.combinations(pairs, len(houses) - 1)


def reached_by(houses, ties):
    """How many houses can be gone to from the first one, by widening until nothing comes to it."""
    reached = {houses[0]}
    for unused in houses:
        for one, other in ties:
            if one in reached or other in reached:
                reached |= {one, other}
    return len(reached)


class Kinds(unittest.TestCase):
    def test_names(self):
        for name in NAMES:
            self.assertIs(is_name(name), True, name)

    def test_each_letter_is_a_name(self):
        for number in range(128):
            self.assertIs(is_name(chr(number)), 97 <= number <= 122, number)
            self.assertIs(is_name("a" + chr(number)), 97 <= number <= 122, number)
            self.assertIs(is_name(chr(number) + "abcdefg"), 97 <= number <= 122, number)

    def test_lengths(self):
        for many in range(30):
            self.assertIs(is_name("q" * many), 1 <= many <= 8, many)

    def test_no_names(self):
        for thing in no_names_nor_none():
            self.assertIs(is_name(thing), False, thing)

    def test_whole_numbers(self):
        for number in (0, 1, -1, 2, 10, -10, 10 ** 40, -10 ** 40):
            self.assertIs(is_whole(number), True, number)

    def test_no_whole_numbers(self):
        things = [True, False, None, "", "0", "1", "-1", "a", b"", b"1", [], [1], (), (1,), {}, {1: 1}, {1}, object()]
        for thing in things:
            self.assertIs(is_whole(thing), False, thing)


class Told(unittest.TestCase):
    def test_houses_and_ties_sorted(self):
        for houses, ties in TREES:
            tree = Tree(houses, ties)
            self.assertEqual(tree.houses(), houses)
            self.assertEqual(tree.ties(), ties)
            self.assertTrue(all(type(tie) is tuple for tie in tree.ties()))

    def test_handed_in_in_any_order_and_ties_either_way_about(self):
        for houses, ties in TREES:
            turned = [(other, one) for one, other in ties]
            half = [(tie[1], tie[0]) if at % 2 else tie for at, tie in enumerate(ties)]
            for given in (ties, ties[::-1], turned, turned[::-1], half, half[::-1], half[1:] + half[:1]):
                for order in (houses, houses[::-1], houses[1:] + houses[:1]):
                    tree = Tree(order, given)
                    self.assertEqual(tree.houses(), houses)
                    self.assertEqual(tree.ties(), ties)

    def test_each_choice_of_as_many_ties_is_a_tree_or_refused(self):
        for houses in (["a", "b", "c"], ["a", "b", "c", "d"], ["e", "a", "d", "b", "c"]):
            trees = 0
            for chosen in rings_and_trees(houses):
                if reached_by(houses, chosen) == len(houses):
                    trees += 1
                    self.assertEqual(Tree(houses, list(chosen)).ties(), sorted(tuple(sorted(tie)) for tie in chosen))
                else:
                    with self.assertRaises(NoTree):
                        Tree(houses, list(chosen))
            # There are n to the power of n - 2 trees of n named houses.
            self.assertEqual(trees, len(houses) ** (len(houses) - 2))

    def test_what_is_handed_in_is_not_changed(self):
        houses, ties = ["c", "a", "b"], [("c", "a"), ("b", "c")]
        Tree(houses, ties)
        self.assertEqual((houses, ties), (["c", "a", "b"], [("c", "a"), ("b", "c")]))

    def test_what_is_refused_is_not_changed(self):
        houses, ties = ["c", "a", "b", "d"], [("c", "a"), ("b", "c"), ("b", "a")]
        with self.assertRaises(NoTree):
            Tree(houses, ties)
        self.assertEqual((houses, ties), (["c", "a", "b", "d"], [("c", "a"), ("b", "c"), ("b", "a")]))

    def test_a_change_behind_the_handing_in_changes_nothing(self):
        houses, ties = ["a", "b", "c"], [("a", "b"), ("b", "c")]
        tree = Tree(houses, ties)
        houses.append("d")
        houses[0] = "x"
        ties.clear()
        self.assertEqual(tree.houses(), ["a", "b", "c"])
        self.assertEqual(tree.ties(), [("a", "b"), ("b", "c")])
        self.assertEqual(tree.neighbours("b"), ["a", "c"])
        self.assertEqual(tree.road("a", "c"), ["a", "b", "c"])

    def test_what_is_told_is_the_askers_own(self):
        tree = Tree(*LINE)
        for told in (tree.houses, tree.ties, lambda: tree.neighbours("b"), lambda: tree.road("a", "d")):
            first = told()
            kept = list(first)
            self.assertIs(type(first), list)
            first.append("more")
            first[0] = "other"
            self.assertEqual(told(), kept)
            self.assertIsNot(told(), told())
        self.assertEqual(tree.without("b").ties(), [("a", "c"), ("c", "d")])
        self.assertEqual(tree.road("b", "b"), ["b"])


class Refused(unittest.TestCase):
    def refuse(self, houses, ties):
        with self.subTest(houses=houses, ties=ties):
            with self.assertRaises(NoTree) as caught:
                Tree(houses, ties)
            self.assertIs(type(caught.exception), NoTree)

    def test_no_list_of_houses(self):
        for houses in [None, "a", "", ("a",), {"a": "b"}] + [thing for thing in other_kinds() if thing != ["a"]]:
            self.refuse(houses, [])
        self.refuse(("a", "b"), [("a", "b")])
        self.refuse("ab", [("a", "b")])
        self.refuse({"a": 1, "b": 2}, [("a", "b")])

    def test_no_houses(self):
        self.refuse([], [])
        self.refuse([], [("a", "b")])

    def test_a_name_that_is_none(self):
        for thing in no_names_nor_none():
            self.refuse([thing], [])
            self.refuse([thing, "a"], [("a", thing)])
            self.refuse(["a", thing], [("a", thing)])
            self.refuse(["a", "b", thing], [("a", "b"), (thing, "b")])
            self.refuse(["a", "b", thing], [("a", "b")])

    def test_a_name_told_twice(self):
        self.refuse(["a", "a"], [])
        self.refuse(["a", "a"], [("a", "a")])
        self.refuse(["a", "b", "a"], [("a", "b")])
        self.refuse(["a", "b", "a"], [("a", "b"), ("a", "b")])
        self.refuse(["a", "b", "b"], [("a", "b"), ("b", "a")])

    def test_no_list_of_ties(self):
        for ties in [None, "", "ab"] + [thing for thing in other_kinds() if thing != []]:
            self.refuse(["a"], ties)
            self.refuse(["a", "b"], ties)
        self.refuse(["a", "b"], (("a", "b"),))
        self.refuse(["a", "b"], {("a", "b"): True})
        self.refuse(["a", "b"], {("a", "b")})

    def test_a_tie_too_few(self):
        for houses, ties in TREES[1:]:
            for at in range(len(ties)):
                self.refuse(houses, ties[:at] + ties[at + 1:])
            self.refuse(houses, [])

    def test_a_tie_too_many(self):
        self.refuse(["a"], [("a", "b")])
        self.refuse(["a"], [("a", "a")])
        self.refuse(["a", "b", "c"], [("a", "b"), ("b", "c"), ("a", "c")])
        for houses, ties in TREES[1:]:
            for pair in itertools.combinations(houses, 2):
                self.refuse(houses, ties + [pair])

    def test_a_tie_told_twice_also_the_other_way_about(self):
        for houses, ties in TREES[1:]:
            for one, other in ties:
                self.refuse(houses, ties + [(one, other)])
                self.refuse(houses, ties + [(other, one)])
        self.refuse(["a", "b", "c"], [("a", "b"), ("a", "b")])
        self.refuse(["a", "b", "c"], [("a", "b"), ("b", "a")])
        self.refuse(["a", "b", "c", "d"], [("a", "b"), ("c", "d"), ("d", "c")])

    def test_a_tie_of_one_house_twice(self):
        self.refuse(["a", "b"], [("a", "a")])
        self.refuse(["a", "b", "c"], [("a", "b"), ("c", "c")])
        self.refuse(["a", "b", "c"], [("b", "b"), ("b", "c")])

    def test_a_tie_of_a_strange_name(self):
        self.refuse(["a", "b"], [("a", "c")])
        self.refuse(["a", "b"], [("c", "a")])
        self.refuse(["a", "b"], [("x", "y")])
        self.refuse(["a", "b", "c"], [("a", "b"), ("b", "d")])
        self.refuse(["a", "b", "c"], [("d", "b"), ("b", "c")])

    def test_a_tie_that_is_no_tuple(self):
        for tie in [None, "ab", "a", ["a", "b"], {"a": "b"}, {"a", "b"}, b"ab", True, 0]:
            self.refuse(["a", "b"], [tie])
            self.refuse(["a", "b", "c"], [("b", "c"), tie])

    def test_a_tie_of_one_or_three_names(self):
        for tie in [(), ("a",), ("b",), ("a", "b", "c"), ("a", "b", "b"), ("a", "b", None), (("a", "b"),)]:
            self.refuse(["a", "b"], [tie])
            self.refuse(["a", "b", "c"], [("b", "c"), tie])

    def test_other_kinds_within_a_tie(self):
        for thing in no_names_nor_none():
            self.refuse(["a", "b"], [("a", thing)])
            self.refuse(["a", "b"], [(thing, "a")])
            self.refuse(["a", "b"], [(thing, thing)])

    def test_a_ring_beside_a_part_that_cannot_be_gone_to(self):
        self.refuse(["a", "b", "c", "d"], [("a", "b"), ("b", "c"), ("a", "c")])
        self.refuse(["a", "b", "c", "d"], [("b", "c"), ("c", "d"), ("d", "b")])
        self.refuse(["a", "b", "c", "d", "e"], [("a", "b"), ("c", "d"), ("d", "e"), ("e", "c")])
        self.refuse(
            ["a", "b", "c", "d", "e", "f"], [("a", "b"), ("b", "c"), ("c", "d"), ("d", "a"), ("e", "f")])


class NeighboursAndRoads(unittest.TestCase):
    def test_neighbours_of_each_house(self):
        for houses, ties in TREES:
            tree = Tree(houses[::-1], [(other, one) for one, other in ties][::-1])
            for house in houses:
                near = sorted([one for one, other in ties if other == house]
                              + [other for one, other in ties if one == house])
                self.assertEqual(tree.neighbours(house), near)

    def test_neighbours_written_out(self):
        self.assertEqual(Tree(*ONE).neighbours("a"), [])
        self.assertEqual(Tree(*TWO).neighbours("b"), ["a"])
        self.assertEqual(Tree(*STAR).neighbours("hub"), ["a", "b", "c", "d"])
        self.assertEqual(Tree(*STAR).neighbours("c"), ["hub"])
        self.assertEqual(Tree(*OTHER).neighbours("m"), ["aa", "h", "x"])

    def test_roads_written_out(self):
        self.assertEqual(Tree(*ONE).road("a", "a"), ["a"])
        self.assertEqual(Tree(*TWO).road("a", "b"), ["a", "b"])
        self.assertEqual(Tree(*TWO).road("b", "a"), ["b", "a"])
        self.assertEqual(Tree(*LINE).road("d", "a"), ["d", "c", "b", "a"])
        self.assertEqual(Tree(*LINE).road("b", "d"), ["b", "c", "d"])
        self.assertEqual(Tree(*CROSSED_LINE).road("a", "c"), ["a", "d", "b", "c"])
        self.assertEqual(Tree(*STAR).road("d", "a"), ["d", "hub", "a"])
        self.assertEqual(Tree(*OTHER).road("y", "ab"), ["y", "x", "m", "h", "ab"])
        self.assertEqual(Tree(*TWELVE).road("l", "k"), ["l", "f", "c", "a", "b", "e", "k"])

    def test_roads_of_all_two_houses(self):
        for houses, ties in TREES:
            tree = Tree(houses, ties)
            for one, other in itertools.product(houses, repeat=2):
                road = tree.road(one, other)
                self.assertEqual((road[0], road[-1]), (one, other))
                self.assertEqual(len(set(road)), len(road))
                for step in zip(road, road[1:]):
                    self.assertIn(tuple(sorted(step)), ties)
                self.assertEqual(tree.road(other, one), road[::-1])
                self.assertEqual(len(road) == 1, one == other)

    def test_no_house_of_the_tree(self):
        strange = ["z", "ho", "houses"] + no_names_nor_none()
        for houses, ties in TREES:
            tree = Tree(houses, ties)
            for thing in strange:
                for asked in (
                    lambda: tree.neighbours(thing),
                    lambda: tree.road(thing, houses[0]),
                    lambda: tree.road(houses[0], thing),
                    lambda: tree.road(thing, thing),
                ):
                    with self.subTest(thing=thing):
                        with self.assertRaises(NoHouse) as caught:
                            asked()
                        self.assertIs(type(caught.exception), NoHouse)
            self.assertEqual((tree.houses(), tree.ties()), (houses, ties))


class Without(unittest.TestCase):
    def left(self, told, house, houses, ties):
        smaller = Tree(*copy.deepcopy(told)).without(house)
        self.assertIsInstance(smaller, Tree)
        self.assertEqual((smaller.houses(), smaller.ties()), (houses, ties))

    def test_written_out(self):
        self.left(TWO, "a", ["b"], [])
        self.left(TWO, "b", ["a"], [])
        self.left(LINE, "a", ["b", "c", "d"], [("b", "c"), ("c", "d")])
        self.left(LINE, "b", ["a", "c", "d"], [("a", "c"), ("c", "d")])
        self.left(LINE, "c", ["a", "b", "d"], [("a", "b"), ("b", "d")])
        self.left(LINE, "d", ["a", "b", "c"], [("a", "b"), ("b", "c")])
        self.left(STAR, "hub", ["a", "b", "c", "d"], [("a", "b"), ("a", "c"), ("a", "d")])
        self.left(STAR, "a", ["b", "c", "d", "hub"], [("b", "hub"), ("c", "hub"), ("d", "hub")])
        self.left(OTHER, "m", ["aa", "ab", "b", "h", "x", "y"],
                  [("aa", "h"), ("aa", "x"), ("ab", "h"), ("b", "h"), ("x", "y")])
        self.left(OTHER, "h", ["aa", "ab", "b", "m", "x", "y"],
                  [("aa", "m"), ("ab", "b"), ("ab", "m"), ("m", "x"), ("x", "y")])

    def test_each_house_left_out(self):
        for houses, ties in TREES[1:]:
            tree = Tree(houses, ties)
            for house in houses:
                smaller = tree.without(house)
                near = tree.neighbours(house)
                due = [tie for tie in ties if house not in tie]
                due += [(near[0], other) for other in near[1:]]
                self.assertEqual(smaller.houses(), [name for name in houses if name != house])
                self.assertEqual(smaller.ties(), sorted(due))
                self.assertEqual((tree.houses(), tree.ties()), (houses, ties))
                self.assertEqual(tree.neighbours(house), near)
                with self.assertRaises(NoHouse):
                    smaller.neighbours(house)
                for other in smaller.houses():
                    self.assertEqual(smaller.road(other, near[0])[-1], near[0])

    def test_one_behind_the_other_down_to_one(self):
        tree = Tree(*TWELVE)
        for many in range(11, 0, -1):
            tree = tree.without(tree.houses()[many // 2])
            self.assertEqual((len(tree.houses()), len(tree.ties())), (many, many - 1))

    def test_the_only_house(self):
        tree = Tree(*ONE)
        with self.assertRaises(NoTree) as caught:
            tree.without("a")
        self.assertIs(type(caught.exception), NoTree)
        self.assertEqual((tree.houses(), tree.ties()), (["a"], []))

    def test_no_house_of_it_also_ahead_of_the_only_one(self):
        for houses, ties in TREES:
            tree = Tree(houses, ties)
            for thing in ["z"] + no_names_nor_none():
                with self.subTest(thing=thing):
                    with self.assertRaises(NoHouse) as caught:
                        tree.without(thing)
                    self.assertIs(type(caught.exception), NoHouse)
            self.assertEqual((tree.houses(), tree.ties()), (houses, ties))


if __name__ == "__main__":
    unittest.main()
