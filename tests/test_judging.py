"""The judge of books, and whether two books end alike."""

import unittest

from helper import (
    Case, Moments, PlainWorld, drawn_start, insides, no_names_nor_none, no_rights, other_kinds, run, spoil,
)
from treeright.errors import NoHouse, NoRight, NoTree
from treeright.judging import end_alike, judge
from treeright.trees import Tree
from treeright.world import World

ONE = Tree(["a"], [])
TWO = Tree(["a", "b"], [("a", "b")])
LINE = Tree(["a", "b", "c", "d"], [("a", "b"), ("b", "c"), ("c", "d")])

ROWS = [
    ("want", "b", "x", 0), ("want", "d", "x", 1), ("want", "a", "y", None), ("come", "b", "a"), ("want", "b", "z", 0),
    ("leave", "b", "z"), ("want", "a", "z", 0), ("done", "a", "y"), ("come", "a", "b"), ("come", "d", "c"),
    ("cut", "c", "d"), ("want", "d", "w", 0), ("fall", "c"), ("want", "b", "q", 1), ("fall", "d"),
    ("mend", ["d"], []), ("come", "d", "c"), ("fall", "a"), ("fall", "b"), ("mend", [], ["b", "a"]), ("mend", [], []),
]


def book_of(tree, places, *rows):
    return run(World(tree, places), *rows).book()


def due_judgement(tree, places, book):
    """What the judge is to tell, by point 30: by a plain world, and a walk over the lines that are still due."""
    if type(book) is not list:
        return (0, "row")
    plain, due = PlainWorld(tree, places), []
    for number, line in enumerate(book):
        if due:
            if insides(line) != insides(due.pop(0)):
                return (number, "line")
            continue
        lines = plain.put(line)
        if not isinstance(lines, list):
            return (number, "row")
        due = lines[1:]
    return (len(book), "end") if due else None


class RightBooks(Moments):
    def test_of_no_lines(self):
        for tree in (ONE, TWO, LINE):
            self.same(judge(tree, ["a"], []), None)

    def test_with_each_row_and_line(self):
        book = book_of(LINE, ["a", "c"], *ROWS)
        self.assertEqual({line[0] for line in book}, {
            "want", "leave", "done", "come", "fall", "cut", "mend", "given", "sends", "lost", "anew"})
        self.same(judge(LINE, ["a", "c"], book), None)

    def test_each_beginning_that_ends_with_a_row(self):
        for many in range(len(ROWS)):
            self.same(judge(LINE, ["a", "c"], book_of(LINE, ["a", "c"], *ROWS[:many])), None)

    def test_of_drawn_runs(self):
        for seed in range(1100, 1140):
            drawing, tree, places = drawn_start(seed)
            for world, plain, row in self.drawn(seed, 100, 0.06):
                pass
            self.same(judge(tree, places, world.book()), None)

    def test_of_four_hundred_lines(self):
        rows = [("want", "a", "x", 0), ("done", "a", "x")] * 133 + [("mend", [], [])]
        book = book_of(ONE, ["a"], *rows)
        self.assertEqual(len(book), 400)
        self.same(judge(ONE, ["a"], book), None)
        self.same(judge(ONE, ["a"], book[:-3]), (397, "end"))
        self.same(judge(ONE, ["a"], book[:-1] + [("mend", [], ["a"])]), (399, "row"))

    def test_of_the_same_tree_and_houses_alone(self):
        book = book_of(LINE, ["a"], ("want", "a", "x", 0))
        self.same(judge(LINE, ["b"], book), (1, "line"))
        self.same(judge(LINE, ["a", "a"], book), None)
        self.same(judge(Tree(["b", "c"], [("b", "c")]), ["b"], book), (0, "row"))


class WrongBooks(Moments):
    def test_a_row_that_is_refused(self):
        begun = book_of(LINE, ["a", "c"], *ROWS[:2])
        for row in (
                ("want", "e", "x", 0), ("want", "a", "q", 2), ("leave", "a", "q"), ("done", "b", "x"),
                ("come", "a", "c"), ("come", "a", "b"), ("cut", "a", "a"), ("fall", "e"), ("mend", ["a"], []),
                ("mend", [], ["a", "b", "c", "d"]), ("mend", ("a",), []), ("mend", "a", "b")):
            self.same(judge(LINE, ["a", "c"], begun + [row]), (len(begun), "row"))
            self.same(judge(LINE, ["a", "c"], [row]), (0, "row"))
        self.same(judge(LINE, ["a", "c"], begun + [("want", "b", "x", 0)]), (len(begun), "row"))

    def test_what_is_down(self):
        book = book_of(LINE, ["a"], ("fall", "b"), ("cut", "c", "d"))
        for row in (("fall", "b"), ("cut", "a", "b"), ("cut", "c", "d"), ("come", "d", "c"), ("want", "b", "x", 0)):
            self.same(judge(LINE, ["a"], book + [row]), (2, "row"))

    def test_a_tuple_that_begins_with_another_word(self):
        begun = book_of(LINE, ["a", "c"], *ROWS[:2])
        for line in (
                (), ("wants", "b", "x", 0), ("Want", "b", "x", 0), ("", "b"), ("given", "a", "x", 0),
                ("sends", "b", "a", 0, "ask"), ("lost", "b", "a", 0, "ask"), ("anew", 0, "a"), (0,), (None,),
                (["want"], "b", "x", 0), (("want",), "b", "x", 0), (True, "b"), ({}, {}), ("want",), ("fall", "a", "b"),
                ("fall",), ("want", "a", "x"), ("done", "a", "x", 0), ("mend", []), ("mend", [], [], [])):
            self.same(judge(LINE, ["a", "c"], begun + [line]), (len(begun), "row"))
            self.same(judge(LINE, ["a", "c"], [line]), (0, "row"))

    def test_any_other_thing_as_a_row(self):
        begun = book_of(LINE, ["a", "c"], *ROWS[:2])
        for thing in [None, "fall a", "fall", ["fall", "a"], {"fall": "a"}] + other_kinds():
            self.same(judge(LINE, ["a", "c"], begun + [thing]), (len(begun), "row"))
            self.same(judge(LINE, ["a", "c"], [thing] + begun), (0, "row"))

    def test_any_other_thing_as_a_line(self):
        begun = book_of(LINE, ["a", "c"], *ROWS[:2])
        self.assertEqual(begun[1], ("sends", "b", "a", 0, "ask"))
        for thing in [None, "sends b a 0 ask", list(begun[1]), (begun[1],)] + other_kinds():
            self.same(judge(LINE, ["a", "c"], begun[:1] + [thing] + begun[2:]), (1, "line"))
            self.same(judge(LINE, ["a", "c"], begun[:1] + [thing]), (1, "line"))

    def test_a_book_that_is_no_list(self):
        for thing in [None, "", "fall a", tuple(book_of(LINE, ["a"], *ROWS[:1]))] + other_kinds():
            if type(thing) is not list:
                self.same(judge(LINE, ["a"], thing), (0, "row"))

    def test_a_line_that_lacks_at_the_end(self):
        book = book_of(LINE, ["a", "c"], *ROWS)
        rows = [number for number, line in enumerate(book) if line in ROWS]
        for many in range(len(book)):
            due = None if many in rows else (many, "end")
            self.same(judge(LINE, ["a", "c"], book[:many]), due)

    def test_a_line_too_many(self):
        book = book_of(LINE, ["a"], ("want", "a", "x", 0))
        self.same(judge(LINE, ["a"], book + [("given", "a", "x", 0)]), (2, "row"))
        self.same(judge(LINE, ["a"], [("given", "a", "x", 0)]), (0, "row"))

    def test_each_part_otherwise(self):
        book = [
            ("want", "b", "x", 1), ("sends", "b", "a", 1, "ask"), ("come", "b", "a"), ("sends", "a", "b", 1, "right"),
            ("come", "a", "b"), ("given", "b", "x", 1), ("want", "a", "y", 1), ("sends", "a", "b", 1, "ask"),
            ("cut", "a", "b"), ("lost", "a", "b", 1, "ask"), ("fall", "b"), ("mend", [], ["b"]), ("anew", 1, "a"),
            ("given", "a", "y", 1)]
        places = ["a", "a"]
        self.same(judge(TWO, places, book), None)
        for number, line in enumerate(book):
            for at, part in enumerate(line):
                for other in self.others(part):
                    changed = line[:at] + (other,) + line[at + 1:]
                    told = judge(TWO, places, book[:number] + [changed] + book[number + 1:])
                    self.same(told, due_judgement(TWO, places, book[:number] + [changed] + book[number + 1:]))
                    if line[0] in ("sends", "given", "lost", "anew"):
                        self.same(told, (number, "line"))

    def others(self, part):
        """Parts that aren't this one, some of them very much like it."""
        if isinstance(part, str):
            return ["q", "", part + "q", part.upper(), part.encode(), [part], (part,), None, 0, True]
        if part is None:
            return [0, 1, True, False, "any", "None", "", [], ()]
        if isinstance(part, int):
            return [0, 2, -1, True, False, str(part), None, [part], (part,)]
        likely = [tuple(part), dict.fromkeys(part), set(part), part + ["a"], part + [1], "".join(part), None, True]
        return likely + [[], (), ["a"]] if part else likely

    def test_true_for_one_and_false_for_nought(self):
        for right, truth in ((0, False), (1, True)):
            places = ["a", "a"]
            book = book_of(TWO, places, ("want", "a", "x", right), ("want", "b", "y", right), ("fall", "a"))
            self.same(judge(TWO, places, book), None)
            for number, line in enumerate(book):
                if right in line:
                    changed = tuple(truth if type(part) is int else part for part in line)
                    due = (number, "row" if line[0] == "want" else "line")
                    self.same(judge(TWO, places, book[:number] + [changed] + book[number + 1:]), due)
            lines = run(World(TWO, places), ("fall", "a")).put(("mend", [], []))
            self.same(lines[1:], [("anew", 0, "a"), ("anew", 1, "a")])
            book = [("fall", "a")] + lines
            book[2 + right] = ("anew", truth, "a")
            self.same(judge(TWO, places, book), (2 + right, "line"))

    def test_tuples_for_lists_and_lists_for_tuples(self):
        book = book_of(LINE, ["a"], ("fall", "b"), ("fall", "c"), ("mend", ["b"], ["c"]))
        self.same(judge(LINE, ["a"], book), None)
        for kept, out in ((("b",), ["c"]), (["b"], ("c",)), (("b",), ("c",)), ("b", "c"), ({"b": 1}, ["c"])):
            self.same(judge(LINE, ["a"], book[:2] + [("mend", kept, out)] + book[3:]), (2, "row"))
        self.same(judge(LINE, ["a"], [list(book[0])] + book[1:]), (0, "row"))
        book = book_of(LINE, ["a"], ("want", "a", "x", 0), ("want", "b", "x", 0))
        self.same(judge(LINE, ["a"], [book[0], list(book[1])] + book[2:]), (1, "line"))
        self.same(judge(LINE, ["a"], book[:3] + [list(book[3])]), (3, "line"))

    def test_a_mending_told_otherwise(self):
        book = book_of(LINE, ["a"], ("want", "a", "x", 0), ("fall", "a"), ("mend", ["a"], []))
        self.same(judge(LINE, ["a"], book), None)
        self.same(judge(LINE, ["a"], book[:3] + [("mend", [], [])]), (4, "end"))
        self.same(judge(LINE, ["a"], book[:3] + [("mend", [], ["a"])]), (4, "end"))
        self.same(judge(LINE, ["a"], book[:3] + [("mend", ["b"], [])]), (3, "row"))
        self.same(judge(LINE, ["a"], book + [("mend", [], [])]), None)

    def check_against_plain(self, tree, places, book):
        told = judge(tree, places, book)
        self.same(told, due_judgement(tree, places, book))
        return told

    def test_lines_left_out_told_twice_exchanged_and_otherwise(self):
        words = set()
        for seed in range(1200, 1230):
            drawing, tree, places = drawn_start(seed, 6)
            for world, plain, row in self.drawn(seed, 50, 0.1, 6):
                pass
            book = world.book()
            for number, line in enumerate(book):
                behind = book[number + 1:]
                books = [
                    book[:number] + behind, book[:number + 1] + book[number:],
                    book[:number] + behind[:1] + [line] + behind[1:],
                    book[:number] + [drawing.choice(book)] + behind]
                at = drawing.randrange(1, len(line))
                parts = [drawing.choice(self.others(line[at])), drawing.choice(drawing.choice(book)[1:])]
                books += [book[:number] + [line[:at] + (part,) + line[at + 1:]] + behind for part in parts]
                for other in books:
                    words.add((self.check_against_plain(tree, places, other) or (0, None))[1])
        self.assertEqual(words, {None, "row", "line", "end"})

    def test_left_out(self):
        book = book_of(LINE, ["a", "c"], *ROWS[:4])
        self.same(book[:5], [
            ("want", "b", "x", 0), ("sends", "b", "a", 0, "ask"), ("want", "d", "x", 1), ("sends", "d", "c", 1, "ask"),
            ("want", "a", "y", None)])
        self.same(judge(LINE, ["a", "c"], book[1:]), (0, "row"))
        self.same(judge(LINE, ["a", "c"], book[:1] + book[2:]), (1, "line"))
        self.same(judge(LINE, ["a", "c"], book[:2] + book[3:]), (2, "row"))

    def test_told_twice(self):
        book = book_of(LINE, ["a", "c"], *ROWS[:2])
        self.same(judge(LINE, ["a", "c"], book[:1] + book), (1, "line"))
        self.same(judge(LINE, ["a", "c"], book[:2] + book[1:]), (2, "row"))
        self.same(judge(LINE, ["a", "c"], book[:2] + book), (2, "row"))

    def test_exchanged_with_the_next_one(self):
        book = book_of(LINE, ["a", "c"], *ROWS[:2])
        self.same(judge(LINE, ["a", "c"], [book[1], book[0]] + book[2:]), (0, "row"))
        self.same(judge(LINE, ["a", "c"], [book[0], book[2], book[1], book[3]]), (1, "line"))
        self.same(judge(LINE, ["a", "c"], book[:2] + [book[3], book[2]]), (2, "row"))
        rows = [("want", "a", "x", 0), ("want", "b", "x", 0), ("want", "b", "y", 1), ("cut", "a", "b")]
        book = book_of(TWO, ["a", "a"], *rows)
        self.same(book[-2:], [("lost", "b", "a", 0, "ask"), ("lost", "b", "a", 1, "ask")])
        self.same(judge(TWO, ["a", "a"], book[:-2] + [book[-1], book[-2]]), (len(book) - 2, "line"))


class EndAlike(Case):
    def alike(self, tree, places, one, other, due):
        books = book_of(tree, places, *one), book_of(tree, places, *other)
        self.same(end_alike(tree, places, *books), due)
        self.same(end_alike(tree, places, *books[::-1]), due)

    def test_a_book_with_itself(self):
        for many in range(len(ROWS) + 1):
            self.alike(LINE, ["a", "c"], ROWS[:many], ROWS[:many], True)

    def test_books_of_unlike_rows(self):
        want, leave, done = ("want", "a", "x", 0), ("leave", "a", "x"), ("done", "a", "x")
        self.alike(TWO, ["a"], [], [want, done], True)
        self.alike(TWO, ["a"], [want], [want, done, want], True)
        self.alike(TWO, ["a"], [("want", "a", "x", None)], [want], True)
        self.alike(TWO, ["a"], [("want", "a", "y", 0)], [("want", "a", "y", 0), want, leave], True)
        self.alike(TWO, ["a"], [want, ("want", "b", "x", 0)], [("want", "b", "x", 0), want], True)
        self.alike(LINE, ["a"], [("fall", "b"), ("fall", "d")], [("fall", "d"), ("fall", "b")], True)
        self.alike(LINE, ["a"], [("cut", "b", "c"), ("cut", "a", "b")], [("cut", "b", "a"), ("cut", "c", "b")], True)
        falls = [("fall", "b"), ("fall", "d")]
        self.alike(LINE, ["a"], falls + [("mend", ["b", "d"], [])], falls + [("mend", ["d", "b"], [])], True)
        self.alike(LINE, ["a"], falls + [("mend", [], [])], [("mend", [], [])] * 3, True)
        self.alike(LINE, ["a"], falls + [("mend", [], ["d", "b"])], [
            ("fall", "d"), ("mend", [], ["d"]), ("fall", "b"), ("mend", [], ["b"])], True)

    def test_the_tree(self):
        self.alike(TWO, ["a"], [("fall", "b"), ("mend", [], ["b"])], [("fall", "b"), ("mend", [], [])], False)
        self.alike(LINE, ["a"], [("fall", "d"), ("mend", [], ["d"])], [("fall", "c"), ("mend", [], ["c"])], False)

    def test_the_ties_of_the_same_houses(self):
        tree = Tree(list("abcdpq"), [("p", "b"), ("p", "c"), ("p", "q"), ("q", "a"), ("q", "d")])
        one, other = [
            [row for house in order for row in (("fall", house), ("mend", [], [house]))] for order in ("pq", "qp")]
        ends = [run(World(tree, ["a"]), *rows).tree() for rows in (one, other)]
        self.assertEqual(ends[0].houses(), ends[1].houses())
        self.assertNotEqual(ends[0].ties(), ends[1].ties())
        self.alike(tree, ["a"], one, other, False)

    def test_a_house_that_is_down(self):
        self.alike(TWO, ["a"], [], [("fall", "b")], False)
        self.alike(TWO, ["a"], [("fall", "a")], [("fall", "a"), ("fall", "b")], False)
        self.alike(LINE, ["a"], [("fall", "c")], [("fall", "d")], False)

    def test_a_tie_that_is_down(self):
        self.alike(TWO, ["a"], [], [("cut", "a", "b")], False)
        self.alike(LINE, ["a"], [("cut", "a", "b")], [("cut", "b", "c")], False)
        self.alike(TWO, ["a"], [("fall", "b")], [("cut", "a", "b"), ("fall", "b")], False)

    def test_the_letters(self):
        one, other = ("want", "b", "x", 0), ("want", "b", "y", 1)
        self.alike(TWO, ["a", "a"], [one, other], [other, one], False)
        asks = [("want", "b", "x", 0), ("want", "c", "x", 0)]
        self.alike(LINE, ["a"], asks, asks + [("come", "c", "b")], False)

    def test_an_arrow(self):
        rows = [("want", "b", "x", 0), ("come", "b", "a"), ("come", "a", "b"), ("done", "b", "x")]
        self.alike(TWO, ["a"], [], rows, False)
        self.alike(TWO, ["a", "a"], rows, [row[:3] + (1,) if row[0] == "want" else row for row in rows], False)

    def test_a_row(self):
        want = [("want", "b", name, 0) for name in "xyz"]
        self.alike(TWO, ["a"], want[:2], want[1::-1], False)
        self.alike(TWO, ["a"], want[:2], want[:3], False)
        self.alike(TWO, ["b"], want[:2], want[::2], False)
        self.alike(TWO, ["b"], [("want", "b", "x", 0), ("want", "b", "a", 0)], [
            ("want", "b", "x", 0), ("want", "a", "q", 0), ("come", "a", "b")], False)

    def test_who_is_inside(self):
        self.alike(TWO, ["a"], [("want", "a", "x", 0)], [("want", "a", "y", 0)], False)
        self.alike(TWO, ["a"], [("want", "a", "x", 0)], [], False)
        self.alike(TWO, ["a", "a"], [("want", "a", "x", 0)], [("want", "a", "x", 1)], False)

    def test_whether_it_has_asked(self):
        self.alike(TWO, ["a"], [("cut", "a", "b")], [
            ("want", "b", "x", 0), ("cut", "a", "b"), ("leave", "b", "x")], False)

    def test_in_a_house_that_is_down(self):
        self.alike(TWO, ["a"], [("fall", "b")], [("want", "b", "x", 0), ("leave", "b", "x"), ("fall", "b")], False)
        self.alike(TWO, ["a"], [("want", "b", "x", 0), ("fall", "b")], [("want", "b", "y", 0), ("fall", "b")], False)
        self.alike(TWO, ["a"], [("want", "a", "x", 0), ("fall", "a")], [("want", "a", "y", 0), ("fall", "a")], False)
        self.alike(TWO, ["a"], [("want", "a", "x", 0), ("fall", "a")], [("fall", "a")], False)
        sent = [("want", "b", "x", 0), ("come", "b", "a"), ("leave", "b", "x")]
        self.alike(TWO, ["a"], sent + [("fall", "b")], sent + [("come", "a", "b"), ("fall", "b")], False)
        self.alike(TWO, ["a"], [("want", "a", "x", 0), ("done", "a", "x"), ("fall", "a")], [("fall", "a")], True)

    def test_where_one_is_not_right(self):
        book = book_of(LINE, ["a", "c"], *ROWS)
        for wrong in (book[:-1], book[1:], [("fall", "e")], [None], ["fall a"], [list(book[0])] + book[1:]):
            self.same(end_alike(LINE, ["a", "c"], book, wrong), False)
            self.same(end_alike(LINE, ["a", "c"], wrong, book), False)
            self.same(end_alike(LINE, ["a", "c"], wrong, wrong), False)

    def test_where_one_is_wrong_at_its_end_alone(self):
        book = book_of(TWO, ["a"], ("want", "a", "x", 0), ("want", "b", "x", 0))
        self.same(end_alike(TWO, ["a"], book, book[:-1]), False)
        self.same(end_alike(TWO, ["a"], book[:-1], book), False)
        self.same(end_alike(TWO, ["a"], book, book[:-1] + [("sends", "b", "a", 0, "right")]), False)

    def test_where_one_is_no_list(self):
        for thing in [None, "", ()] + other_kinds():
            if type(thing) is not list:
                for other in ([], thing, ()):
                    self.same(end_alike(TWO, ["a"], thing, other), False)
                    self.same(end_alike(TWO, ["a"], other, thing), False)


class EndOfDrawnRuns(Moments):
    def test_rows_in_another_order_and_rows_that_undo_one_another(self):
        seen = []
        for seed in range(1300, 1420):
            drawing, tree, places = drawn_start(seed, 3)
            books = []
            for swap in (False, True):
                plain, world = PlainWorld(tree, places), World(tree, places)
                rows = self.rows_of(seed, swap)
                for row in rows:
                    if isinstance(plain.put(row), list):
                        world.put(row)
                books.append((plain, world.book()))
            due = self.standing(books[0][0]) == self.standing(books[1][0])
            self.same(end_alike(tree, places, books[0][1], books[1][1]), due)
            seen.append(due)
        self.assertGreater(min(seen.count(True), seen.count(False)), 20)

    def rows_of(self, seed, swap):
        """Rows of a drawn run, of which two beside one another are exchanged or not."""
        rows = [row for world, plain, row in self.drawn(seed, 25, 0.1, 3)]
        at = seed % max(1, len(rows) - 1)
        return rows[:at] + rows[at:at + 2][::-1] + rows[at + 2:] if swap else rows

    def standing(self, plain):
        """All that is to be the same, of each house that is down too."""
        houses = {house: home.told() for house, home in plain.homes.items()}
        return plain.tree.houses(), plain.tree.ties(), plain.down, plain.cuts, plain.post, houses


class Refused(Case):
    books = ([], None, (), [("fall", "a")], ["no row"], 7, "")

    def check(self, refusal, tree, places):
        for book in self.books:
            self.refuse(refusal, None, judge, tree, places, book)
            for other in self.books:
                self.refuse(refusal, None, end_alike, tree, places, book, other)

    def test_places_that_are_no_list_of_one_at_least(self):
        for places in [None, "a", "", (), ("a",), {}, {"a": 1}, 0, 1, True, b"a", []]:
            self.check(NoRight, TWO, places)

    def test_places_that_are_no_houses(self):
        for thing in ["c", "zz"] + no_names_nor_none():
            for places in ([thing], ["a", thing], [thing, "a"]):
                self.check(NoHouse, TWO, places)

    def test_no_tree(self):
        for thing in (None, "tree a", ["a"], (["a"], []), 0, True, {}):
            for places in (["a"], [], None, ["z"]):
                self.check(NoTree, thing, places)

    def test_a_right_of_no_number_is_a_wrong_row(self):
        for thing in no_rights(2):
            self.same(judge(TWO, ["a", "b"], [("want", "a", "x", thing)]), (0, "row"))


class Own(Case):
    def test_nothing_that_is_handed_in_is_changed(self):
        places, book = ["a", "c"], book_of(LINE, ["a", "c"], *ROWS)
        for other in (book, book[:-1], book + [("mend", ["a"], ["b"])], book + [("mend", ["a"], [1])], [["fall"]]):
            ahead = insides([LINE, places, book, other])
            judge(LINE, places, other)
            end_alike(LINE, places, book, other)
            end_alike(LINE, places, other, book)
            self.assertEqual(insides([LINE, places, book, other]), ahead)

    def test_nothing_is_kept(self):
        places, book = ["a", "c"], book_of(LINE, ["a", "c"], *ROWS)
        judge(LINE, places, book)
        end_alike(LINE, places, book, book)
        spoil(book)
        spoil(places)
        again = book_of(LINE, ["a", "c"], *ROWS)
        self.same(judge(LINE, ["a", "c"], again), None)
        self.same(end_alike(LINE, ["a", "c"], again, again), True)


if __name__ == "__main__":
    unittest.main()
