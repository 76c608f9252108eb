"""Point 28, asked of the package alone: who goes ahead of one whose chain is whole, and that it is given the right."""

import copy
import unittest

from helper import ASKERS, Case, Moments, drawn_start, ways, world_told
from treeright.chains import ahead, is_whole_chain
from treeright.trees import Tree
from treeright.world import World


def due_rows(world):
    """Rows by which the first letter of each way comes in, and each that is inside is done."""
    rows = [("come", *way) for way in ways(world.tree()) if world.letters(*way)]
    return rows + [("done", house, name) for house in world.tree().houses()
                   for name, right, waits in world.house(house).askers() if not waits]


def who_waits(world):
    """A dict of each (house, asker) that waits to the right for which it does."""
    return {(house, name): right for house in world.tree().houses()
            for name, right, waits in world.house(house).askers() if waits}


def who_is_free(world, askers):
    """Each (house, asker) of these askers that can want."""
    here = [(house, name) for house in world.tree().houses() for name, right, waits in world.house(house).askers()]
    return [(house, name) for house in world.tree().houses() for name in askers if (house, name) not in here]


def who_is_given(lines):
    """Each (house, asker) that is given a right by these lines."""
    return [line[1:3] for line in lines if line[0] == "given"]


class Watch:
    """Those whose chain was whole at some moment, and who was given their right since."""

    def __init__(self, case, tree, places):
        self.case, self.world, self.since, self.most = case, World(tree, places), {}, {}
        self.rights = [None, *range(len(places))]
        self.ended = self.passed = 0

    def put(self, row, bounded=False):
        """Put a row; with bounded nobody wants from here on, so that point 27 tells how many go ahead."""
        lines = self.world.put(row)
        for word, house, asker, right in [line for line in lines if line[0] == "given"]:
            self.tell_given((house, asker), right)
        if row[0] == "leave":
            self.since.pop(row[1:], None)
            self.most.pop(row[1:], None)
        self.look(bounded)
        return lines

    def look(self, bounded):
        """See whose chains are whole now."""
        for one, right in who_waits(self.world).items():
            if is_whole_chain(self.world, *one):
                self.since.setdefault(one, (right, []))
                if bounded:
                    self.most.setdefault(one, [ahead(self.world, *one), 0])

    def tell_given(self, one, right):
        if one in self.since:
            self.ended += 1
            self.passed += len(self.since.pop(one)[1])
            self.most.pop(one, None)
        for other, (wanted, others) in self.since.items():
            if wanted == right:
                self.case.assertNotIn(one, others, f"{one} goes ahead of {other} twice")
                others.append(one)
                if other in self.most:
                    self.most[other][1] += 1
                    self.case.assertLessEqual(self.most[other][1], self.most[other][0], other)


class AheadOfOne(Case):
    """Behind the moment at which its chain is whole."""

    def drawn_rows(self, drawing, watch, eager):
        """Rows that can be put now; who is eager wants as soon as it can."""
        wants = [("want", *one, drawing.choice(watch.rights)) for one in who_is_free(watch.world, ASKERS)]
        leaves = [("leave", *one) for one in who_waits(watch.world) if drawing.random() < 0.05]
        return due_rows(watch.world) * 2 + leaves + (wants if eager else wants[:1])

    def finish(self, drawing, watch, leaving):
        """Nobody wants any more: all letters come in, each that is inside is done, until nobody waits."""
        steps = 0
        watch.look(True)
        while who_waits(watch.world):
            steps += 1
            self.assertLess(steps, 5000, "somebody waits for ever")
            rows = due_rows(watch.world)
            if leaving and drawing.random() < 0.02:
                rows = [("leave", *one) for one in who_waits(watch.world)]
            watch.put(drawing.choice(rows), True)
        self.assertEqual((watch.since, watch.most), ({}, {}))

    def test_each_other_one_at_most_once_and_no_more_than_told(self):
        ended = passed = 0
        for seed in range(1000, 1060):
            drawing, tree, places = drawn_start(seed, 8)
            watch = Watch(self, tree, places)
            for unused in range(120):
                rows = self.drawn_rows(drawing, watch, seed % 2 == 0)
                if rows:
                    watch.put(drawing.choice(rows))
            self.finish(drawing, watch, seed % 3 == 0)
            ended, passed = ended + watch.ended, passed + watch.passed
        self.assertGreater(ended, 1000)
        self.assertGreater(passed, 3000)

    def test_a_long_run_of_twelve_houses(self):
        for seed in (1, 3, 5):
            drawing, tree, places = drawn_start(seed)
            watch = Watch(self, tree, places)
            for unused in range(700):
                watch.put(drawing.choice(self.drawn_rows(drawing, watch, True)))
            self.finish(drawing, watch, False)

    def test_as_many_as_are_told_may_go_ahead(self):
        world = World(Tree(["a"], []), ["a"])
        for name in ASKERS:
            world.put(("want", "a", name, 0))
        self.same([ahead(world, "a", name) for name in ASKERS[1:]], [1, 2, 3])
        order = [one for name in ASKERS for one in who_is_given(world.put(("done", "a", name)))]
        self.same(order, [("a", name) for name in ASKERS[1:]])


class EachFuture(Case):
    """Each way in which a small world without falls can go on from each standing that it can come to."""

    def standing(self, world):
        told = world_told(world, 1)
        return repr([told["houses"], told["letters"]])

    def next_rows(self, world, askers):
        leaves = [("leave", *one) for one in who_waits(world)]
        return due_rows(world) + leaves + [("want", *one, 0) for one in who_is_free(world, askers)]

    def walk(self, tree, askers):
        """A dict of each standing to a world that stands so and its rows, each with the standing behind it."""
        first = World(tree, ["a"])
        found, fresh = {self.standing(first): (first, [])}, [self.standing(first)]
        while fresh:
            world, rows = found[fresh.pop(0)]
            for row in self.next_rows(world, askers):
                behind = copy.deepcopy(world)
                given = who_is_given(behind.put(row))
                standing = self.standing(behind)
                if standing not in found:
                    found[standing] = (behind, [])
                    fresh.append(standing)
                rows.append((row, standing, given))
        return found

    def check_each_once(self, found, standing, one):
        """Nobody is given the right twice ahead of one that doesn't leave, whoever wants."""
        seen, fresh = {(standing, frozenset())}, [(standing, frozenset())]
        while fresh:
            here, others = fresh.pop()
            for row, behind, given in found[here][1]:
                if row == ("leave", *one) or one in given:
                    continue
                self.assertEqual(others & set(given), set())
                if (behind, others | set(given)) not in seen:
                    seen.add((behind, others | set(given)))
                    fresh.append((behind, others | set(given)))

    def most_ahead(self, found, standing, one, known):
        """How many are given the right at most from here on ahead of one, where nobody wants or leaves."""
        if standing not in known:
            known[standing] = None
            rows = [row for row in found[standing][1] if row[0][0] in ("come", "done")]
            self.assertNotEqual(rows, [], "somebody waits for ever")
            known[standing] = max(
                0 if one in given else len(given) + self.most_ahead(found, behind, one, known)
                for row, behind, given in rows)
        self.assertIsNotNone(known[standing], "somebody waits for ever")
        return known[standing]

    def check(self, tree, askers):
        whole, found = 0, self.walk(tree, askers)
        for standing, (world, rows) in found.items():
            for one in who_waits(world):
                if is_whole_chain(world, *one):
                    whole += 1
                    self.check_each_once(found, standing, one)
                    # The one that is inside was given the right ahead of this moment, and all others may be behind it.
                    self.same(ahead(world, *one), 1 + self.most_ahead(found, standing, one, {}))
        return len(found), whole

    def test_a_house_with_three_askers(self):
        self.same(self.check(Tree(["a"], []), ["x", "y", "z"]), (16, 18))

    def test_two_houses_with_two_askers_each(self):
        self.same(self.check(Tree(["a", "b"], [("a", "b")]), ["x", "y"]), (230, 136))

    def test_three_houses_with_an_asker_each(self):
        self.same(self.check(Tree(["a", "b", "c"], [("a", "b"), ("b", "c")]), ["x"]), (302, 34))

    def test_four_houses_with_an_asker_each(self):
        self.same(self.check(Tree(["a", "b", "c", "d"], [("a", "b"), ("a", "c"), ("c", "d")]), ["x"]), (2496, 356))


class GivenInTheEnd(Moments):
    """Whatever comes late."""

    def test_where_nobody_wants_any_more(self):
        for seed in range(600, 660):
            drawing, tree, places = drawn_start(seed)
            for world, plain, row in self.drawn(seed, 60, 0):
                pass
            waiting, given, turns = set(who_waits(world)), set(), 0
            while who_waits(world):
                turns += 1
                self.assertLess(turns, 2000, "somebody waits for ever")
                rows = due_rows(world)
                for row in drawing.sample(rows, len(rows)):
                    given |= set(who_is_given(world.put(row)))
            self.assertLessEqual(waiting, given)

    def test_where_all_want_again_and_again(self):
        for seed in range(700, 715):
            drawing, tree, places = drawn_start(seed, 6)
            world = World(tree, places)
            given = {(house, asker): 0 for house in tree.houses() for asker in ASKERS[:2]}
            for unused in range(400):
                rows = due_rows(world)
                rows = drawing.sample(rows, len(rows))
                for house, asker in given:
                    if asker not in [name for name, right, waits in world.house(house).askers()]:
                        rows.append(("want", house, asker, drawing.choice([None, *range(len(places))])))
                for one in [one for row in rows for one in who_is_given(world.put(row))]:
                    given[one] += 1
            self.assertGreater(min(given.values()), 5)

    def test_where_the_letters_of_one_that_waits_are_late(self):
        for seed in range(800, 840):
            drawing, tree, places = drawn_start(seed, 6)
            world, house, steps = World(tree, places), drawing.choice(tree.houses()), 0
            world.put(("want", house, "slow", 0))
            while (house, "slow") in who_waits(world):
                steps += 1
                self.assertLess(steps, 2000, "somebody waits for ever")
                for other in tree.houses():
                    if other != house and not world.house(other).askers():
                        world.put(("want", other, "busy", 0))
                rows = due_rows(world)
                soon = [row for row in rows if house not in row[1:]]
                world.put(drawing.choice(rows if steps % 8 == 0 or not soon else soon))


if __name__ == "__main__":
    unittest.main()
