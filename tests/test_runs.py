"""Long drawn runs: the world against the plain one, and what is promised of each moment of them."""

import copy
import itertools
import unittest

from helper import (
    ASKERS, Case, Moments, PlainWorld, drawn_fall, drawn_row, drawn_start, no_names_nor_none, no_rights, spoil, ways,
    world_told,
)
from treeright.standing import arrows, lead, where
from treeright.trees import Tree
from treeright.world import World


def drawn_nonsense(drawing, plain):
    """A row of any parts, often refused."""
    houses = plain.tree.houses() * 3 + ["q", drawing.choice(no_names_nor_none())]
    askers = ASKERS * 3 + ["new", drawing.choice(no_names_nor_none())]
    rights = list(range(plain.many)) + [None, drawing.choice(no_rights(plain.many))]
    lists = [[], [], sorted(plain.down), plain.tree.houses()[:1], ["a", "a"], None, "a", ("a",), [1]]
    word = drawing.choice(["want", "leave", "done", "come", "fall", "cut", "mend", "come", "want", "none"])
    if word == "mend":
        return word, drawing.choice(lists), drawing.choice(lists)
    if word in ("come", "cut"):
        return word, drawing.choice(houses), drawing.choice(houses)
    parts = {"want": (houses, askers, rights), "leave": (houses, askers), "done": (houses, askers), "fall": (houses,)}
    return word, *[drawing.choice(things) for things in parts.get(word, (houses,))]


def places_of(plain, right):
    """Each house, of those that are down too, and each tie that a right is at."""
    here = [house for house in plain.homes if plain.homes[house].seats[right]["arrow"] is None]
    return here + [way for way, letters in plain.post.items() for letter in letters
                   if letter in ((right, "right"), (right, "back"))]


def due_where(plain, right):
    """Where a right is, by point 22."""
    for place in places_of(plain, right):
        if isinstance(place, tuple):
            return ("way", *place)
        if place not in plain.down:
            return ("house", place, plain.homes[place].seats[right]["inside"])
    return ("lost",)


def due_lead(plain, house, right):
    """The lead from a house, by point 24: of two houses in turn, until the second one ends it."""
    pointed = {name: home.seats[right]["arrow"] for name, home in plain.homes.items() if name not in plain.down}
    if pointed[house] is None:
        return [house]
    after = pointed[house]
    if after in plain.down or pointed[after] in (None, house):
        return [house, after]
    return [house] + due_lead(plain, after, right)


class AsThePointsTell(Moments):
    def test_each_row_and_all_that_can_be_asked(self):
        for seed in range(40):
            for world, plain, row in self.drawn(seed, 120, 0.08, 7):
                self.same(world_told(world, plain.many), plain.told(), row)

    def test_rows_of_which_many_are_refused(self):
        refused = done = 0
        for seed in range(100, 140):
            drawing, tree, places = drawn_start(seed, 5)
            world, plain = World(tree, places), PlainWorld(tree, places)
            for unused in range(150):
                row = drawn_row(drawing, plain, ASKERS) or ("none",)
                if drawing.random() < 0.6:
                    row = drawn_nonsense(drawing, plain)
                due = plain.put(row)
                if isinstance(due, list):
                    done += 1
                    told = world.put(row)
                    self.same(told, due, row)
                    spoil(told)
                    spoil(row)
                else:
                    refused += 1
                    self.refuse(due, world, world.put, row)
            self.same(world_told(world, plain.many), plain.told())
        self.assertGreater(min(refused, done), 1000)

    def test_long_runs_of_as_many_rows_as_are_promised(self):
        for seed, falls in ((1, 0), (2, 0.02), (3, 0.1)):
            drawing, tree, places = drawn_start(seed)
            world, plain, many = World(tree, places), PlainWorld(tree, places), 0
            while many < 1100:
                row = drawn_row(drawing, plain, ASKERS)
                if drawing.random() < falls:
                    row = drawn_fall(drawing, plain)
                if row is not None:
                    many += 1
                    self.same(world.put(row), plain.put(row), row)
            self.same(world_told(world, plain.many), plain.told())

    def test_what_stands(self):
        for seed in range(200, 240):
            for world, plain, row in self.drawn(seed, 80, 0.1, 7):
                up = [house for house in plain.tree.houses() if house not in plain.down]
                for right in range(plain.many):
                    self.same(where(world, right), due_where(plain, right))
                    self.same(arrows(world, right), {
                        house: plain.homes[house].seats[right]["arrow"] for house in up})
                    for house in up:
                        self.same(lead(world, house, right), due_lead(plain, house, right))


def all_rows(tree, askers, falls):
    """Each row of these askers that a world of this tree and one right can be told, with falls and mendings or not."""
    houses = tree.houses()
    rows = [row for house in houses for asker in askers
            for row in (("want", house, asker, 0), ("leave", house, asker), ("done", house, asker))]
    rows += [("come", *way) for way in ways(tree)]
    if falls:
        rows += [("fall", house) for house in houses] + [("cut", *way) for way in ways(tree)]
        for choice in itertools.product("kept out neither".split(), repeat=len(houses)):
            chosen = {word: [house for house, told in zip(houses, choice) if told == word] for word in choice}
            rows.append(("mend", chosen.get("kept", []), chosen.get("out", [])))
    return rows


class EachStanding(Case):
    """Each row in each standing that a small world can come to."""

    def walk(self, houses, ties, askers, falls):
        tree = Tree(houses, ties)
        fresh = [(World(tree, ["a"]), PlainWorld(tree, ["a"]))]
        seen = {self.key(fresh[0][1])}
        while fresh:
            world, plain = fresh.pop(0)
            for row in all_rows(plain.tree, askers, falls):
                other = copy.deepcopy(plain)
                lines = other.put(row)
                if not isinstance(lines, list):
                    self.refuse(lines, world, world.put, row)
                    continue
                behind = copy.deepcopy(world)
                self.same(behind.put(row), lines)
                self.same(world_told(behind, 1), other.told())
                if self.key(other) not in seen:
                    seen.add(self.key(other))
                    fresh.append((behind, other))
        return len(seen)

    def key(self, plain):
        homes = {house: plain.homes[house].told() for house in plain.tree.houses()}
        cuts = sorted(sorted(tie) for tie in plain.cuts)
        return repr((plain.tree.ties(), homes, sorted(plain.post.items()), sorted(plain.down), cuts))

    def test_two_houses_with_an_asker_each_that_fall_and_are_mended(self):
        self.assertEqual(self.walk(["a", "b"], [("a", "b")], ["x"], True), 204)

    def test_two_houses_with_two_askers_each(self):
        self.assertEqual(self.walk(["a", "b"], [("a", "b")], ["x", "y"], False), 230)

    def test_three_houses_with_an_asker_each(self):
        self.assertEqual(self.walk(["a", "b", "c"], [("a", "b"), ("b", "c")], ["x"], False), 302)


class NeverMoreThanOne(Moments):
    def test_of_each_right_while_things_fall_and_are_mended(self):
        seen = set()
        for seed in range(300, 360):
            for world, plain, row in self.drawn(seed, 120, 0.15, 8):
                seen.add(row[0])
                for right in range(plain.many):
                    self.one_at_most(world, plain, right)
        self.assertEqual(seen, {"want", "leave", "done", "come", "fall", "cut", "mend"})

    def one_at_most(self, world, plain, right):
        up = [house for house in world.tree().houses() if not world.is_down(house)]
        here = [house for house in up if world.house(house).arrow(right) is None]
        letters = [letter for way in ways(world.tree()) for letter in world.letters(*way)]
        coming = [letter for letter in letters if letter in ((right, "right"), (right, "back"))]
        self.assertLessEqual(len(here) + len(coming), 1)
        self.assertLessEqual(len(places_of(plain, right)), 1)
        self.assertEqual(where(world, right) == ("lost",), not here and not coming)
        for house in up:
            if world.house(house).inside(right) is not None:
                self.assertEqual(here, [house])


class WhereAllIsUp(Moments):
    """Point 25, asked of the package alone."""

    def check_moment(self, world, many):
        for right in range(many):
            place = where(world, right)
            here = [house for house in world.tree().houses() if world.house(house).arrow(right) is None]
            coming = [way for way in ways(world.tree()) for number, word in world.letters(*way)
                      if number == right and word in ("right", "back")]
            self.assertEqual(len(here) + len(coming), 1)
            self.assertEqual(place[1:2] if here else place[1:], tuple(here) if here else coming[0])
            self.assertEqual(place[0], "house" if here else "way")
            for house in world.tree().houses():
                self.check_lead(lead(world, house, right), place)
                self.check_asked(world, house, right, place)

    def check_lead(self, led, place):
        if place[0] == "house":
            self.assertEqual(led[-1], place[1])
        else:
            self.assertEqual(set(led[-2:]), set(place[1:]))
        self.assertEqual(len(set(led)), len(led))

    def check_asked(self, world, house, right, place):
        home, due = world.house(house), False
        arrow = home.arrow(right)
        if arrow is not None:
            letters = world.letters(house, arrow)
            due = (right, "ask") in letters or (right, "back") in letters
            due = due or ("house", house) in world.house(arrow).row(right)
            due = due or (place[0] == "way" and place[2] == house)
        self.assertIs(home.has_asked(right), due, (house, right))

    def test_without_falls(self):
        for seed in range(400, 440):
            drawing, tree, places = drawn_start(seed)
            self.check_moment(World(tree, places), len(places))
            for world, plain, row in self.drawn(seed, 100, 0, 9):
                self.check_moment(world, plain.many)

    def test_behind_mendings(self):
        moments = 0
        for seed in range(500, 560):
            mended = False
            for world, plain, row in self.drawn(seed, 120, 0.1, 7):
                mended = mended or row[0] == "mend"
                if mended and not plain.down and not plain.cuts:
                    moments += 1
                    self.check_moment(world, plain.many)
        self.assertGreater(moments, 500)


if __name__ == "__main__":
    unittest.main()
