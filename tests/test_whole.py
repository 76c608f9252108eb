"""The whole program: desks, books, judges and worlds that are told the same, or the same by other names and numbers."""

import random
import unittest

from helper import ASKERS, Moments, PlainWorld, drawn_fall, drawn_row, drawn_start, world_told
from treeright.chains import ahead, chain, letters_sent
from treeright.desk import Desk
from treeright.judging import end_alike, judge
from treeright.standing import arrows, lead, where
from treeright.texts import read_book, read_tree, show_line, show_tree
from treeright.trees import Tree
from treeright.world import World

WORDS = ("want", "leave", "done", "come", "fall", "cut", "mend")


def drawn_rows(seed, steps, kinds, rights=True, most_houses=7):
    """A tree, places and rows of these kinds that can be put one behind the other; wants of numbered rights or any."""
    drawing, tree, places = drawn_start(seed, most_houses)
    plain, rows = PlainWorld(tree, places), []
    for unused in range(steps):
        row = drawn_row(drawing, plain, ASKERS)
        if drawing.random() < 0.08:
            row = drawn_fall(drawing, plain)
        if row is not None and row[0] == "want" and not rights:
            row = row[:3] + (drawing.randrange(len(places)),)
        if row is not None and row[0] in kinds:
            plain.put(row)
            rows.append(row)
    return tree, places, rows


def begun(tree, places):
    desk = Desk()
    desk.say(f"begin {' '.join(places)}\n{show_tree(tree)}")
    return desk


class FromADesk(Moments):
    def test_its_book_is_judged_right_and_told_anew(self):
        for seed in range(1700, 1730):
            tree, places, rows = drawn_rows(seed, 90, WORDS)
            desk = begun(tree, places)
            for row in rows:
                desk.say(show_line(row))
            book = read_book(desk.say("book"))
            self.same(judge(tree, places, book), None)
            told = [line for line in book if line[0] in WORDS]
            self.same(told, rows)
            world, other = World(tree, places), begun(tree, places)
            for row in told:
                world.put(row)
                other.say(show_line(row))
            self.same(world.book(), book)
            self.same(other.say("book"), desk.say("book"))
            self.same(end_alike(tree, places, book, world.book()), True)
            self.same(desk.say("tree"), show_tree(world.tree()))
            self.same(other.say("tree"), desk.say("tree"))
            for right in range(len(places)):
                self.same(desk.say(f"where {right}"), other.say(f"where {right}"))

    def test_the_tree_that_it_tells_begins_another_one(self):
        desk = begun(Tree(["a", "b", "c", "hub"], [("hub", "a"), ("hub", "b"), ("hub", "c")]), ["a"])
        desk.say("fall hub")
        desk.say("mend - hub")
        other = Desk()
        self.same(other.say("begin c\n" + desk.say("tree")), "ok")
        self.same(other.say("lead b 0"), "b a c")
        self.same(read_tree(other.say("tree")).ties(), [("a", "b"), ("a", "c")])

    def test_the_same_rows_tell_the_same_whenever_they_are_told(self):
        tree, places, rows = drawn_rows(1, 150, WORDS)
        books = []
        for unused in range(3):
            world = World(tree, places)
            for row in rows:
                world.put(row)
                world.book()
            books.append(world.book())
        self.same(books[1:], books[:-1])


class Otherwise(Moments):
    """Two worlds side by side, of which the second one is told the same by other names or numbers."""

    def both(self, tree, places, rows, house, asker, right):
        """Tell both; house, asker and right tell how each is called in the second one."""
        plainly = World(tree, places)
        ties = [(house[one], house[other]) for one, other in tree.ties()]
        numbers = sorted(range(len(places)), key=lambda number: right[number])
        other = World(Tree([house[name] for name in tree.houses()], ties), [house[places[at]] for at in numbers])
        for row in rows:
            due = [self.renamed(line, house, asker, right) for line in plainly.put(row)]
            self.same(other.put(self.renamed(row, house, asker, right)), due)
            self.check_standing(plainly, other, house, asker, right)
        due = {(right[number], word): many for (number, word), many in letters_sent(plainly.book()).items()}
        self.same(letters_sent(other.book()), due)

    def renamed(self, line, house, asker, right):
        if line[0] == "mend":
            return ("mend", [house[name] for name in line[1]], [house[name] for name in line[2]])
        if line[0] == "anew":
            return ("anew", right[line[1]], house[line[2]])
        if line[0] in ("want", "given"):
            return (line[0], house[line[1]], asker[line[2]], None if line[3] is None else right[line[3]])
        if line[0] in ("leave", "done"):
            return (line[0], house[line[1]], asker[line[2]])
        names = tuple(house[name] for name in line[1:3])
        return line[:1] + names + ((right[line[3]], line[4]) if len(line) > 3 else ())

    def check_standing(self, plainly, other, house, asker, right):
        for number in right:
            place = where(plainly, number)
            if place[0] == "house":
                place = ("house", house[place[1]], None if place[2] is None else asker[place[2]])
            elif place[0] == "way":
                place = ("way", house[place[1]], house[place[2]])
            self.same(where(other, right[number]), place)
            pointed = {**house, None: None}
            due = {house[name]: pointed[arrow] for name, arrow in arrows(plainly, number).items()}
            self.same(arrows(other, right[number]), due)
            for name in arrows(plainly, number):
                self.same(lead(other, house[name], right[number]), [house[far] for far in lead(plainly, name, number)])
        for name in arrows(plainly, 0):
            for one, number, waits in plainly.house(name).askers():
                if waits:
                    self.same(chain(other, house[name], asker[one]), [house[far] for far in chain(plainly, name, one)])
                    self.same(ahead(other, house[name], asker[one]), ahead(plainly, name, one))

    def test_houses_named_otherwise_in_the_same_order(self):
        for seed in range(1800, 1812):
            tree, places, rows = drawn_rows(seed, 60, WORDS)
            house = dict(zip(tree.houses(), ["k", "kk", "l", "mm", "q", "s", "tt", "u", "vw", "x", "yy", "zzzz"]))
            asker = dict(zip(ASKERS, ["z", "a", "yy", "ann"]))
            self.both(tree, places, rows, house, asker, {number: number for number in range(len(places))})

    def test_houses_named_otherwise_in_any_order_where_nothing_falls(self):
        for seed in range(1820, 1832):
            tree, places, rows = drawn_rows(seed, 60, WORDS[:4])
            names = tree.houses()
            random.Random(seed).shuffle(names)
            house, asker = dict(zip(tree.houses(), names)), dict(zip(ASKERS, reversed(ASKERS)))
            self.both(tree, places, rows, house, asker, {number: number for number in range(len(places))})

    def test_rights_exchanged(self):
        # A want of any right goes by the numbers, and so does a mending, which takes the rights in turn.
        for seed in range(1840, 1855):
            tree, places, rows = drawn_rows(seed, 70, WORDS[:6], rights=False)
            numbers = list(range(len(places)))
            random.Random(seed).shuffle(numbers)
            house, asker = {name: name for name in tree.houses()}, {name: name for name in ASKERS}
            self.both(tree, places, rows, house, asker, dict(enumerate(numbers)))

    def test_rights_exchanged_and_mended_with_no_letters_behind_it(self):
        tree = Tree(["a", "b", "c"], [("a", "b"), ("b", "c")])
        rows = [("want", "a", "x", 0), ("want", "c", "y", 1), ("fall", "b"), ("mend", [], ["b"])]
        one, other = World(tree, ["a", "c"]), World(tree, ["c", "a"])
        for row in rows:
            one.put(row)
            other.put(row[:3] + (1 - row[3],) if row[0] == "want" else row)
        self.same(where(one, 0), where(other, 1))
        self.same(where(one, 1), where(other, 0))
        self.same(world_told(one, 2)["tree"], world_told(other, 2)["tree"])


if __name__ == "__main__":
    unittest.main()
