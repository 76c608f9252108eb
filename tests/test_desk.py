"""The desk: a world that is told and asked by texts."""

import random
import unittest

from helper import (
    Case, Moments, NO_NAME_TEXTS, PlainWorld, drawn_fall, drawn_row, drawn_start, insides, other_kinds,
)
from treeright.chains import ahead
from treeright.desk import Desk
from treeright.errors import (
    Down, NoAsker, NoHouse, NoLetter, NoLine, NoMend, NoRight, NoText, NoTie, TreeError,
)
from treeright.standing import lead, where
from treeright.texts import read_book, show_book, show_line, show_tree
from treeright.trees import Tree
from treeright.world import World

LINE = "tree a b c d\ntie a b\ntie b c\ntie c d"

ROWS = [
    "want a x 0", "want a x any", "leave a x", "done a x", "come a b", "fall d", "cut a b", "mend", "mend + d",
    "mend - d",
]
QUESTIONS = ["where 0", "lead a 0", "row a 0", "ahead a x", "tree", "book"]
LINES = ["given a x 0", "sends a b 0 ask", "lost a b 0 right", "anew 0 a", "sends a b 0 back"]


def begun(places, *rows, tree=LINE):
    """A desk behind a begin and some rows."""
    desk = Desk()
    desk.say(f"begin {places}\n{tree}")
    for row in rows:
        desk.say(row)
    return desk


class DeskCase(Case):
    def answers(self, desk, *pairs):
        for row, answer in pairs:
            self.same(desk.say(row), answer, row)

    def refused(self, refusal, desk, *rows):
        """Rows are refused with just this class, and all that can be asked is as ahead of it."""
        for row in rows:
            stood = self.told(desk)
            self.refuse(refusal, desk, desk.say, row)
            self.assertEqual(self.told(desk), stood)

    def told(self, desk):
        """The answers to all questions, refusals among them."""
        told = {}
        houses, askers = ["a", "b", "c", "d"], ["x", "y"]
        for row in ["tree", "book"] + [f"where {right}" for right in range(3)] + [
                f"{word} {house} {right}" for word in ("lead", "row") for house in houses for right in range(2)] + [
                f"ahead {house} {asker}" for house in houses for asker in askers]:
            try:
                told[row] = desk.say(row)
            except TreeError as caught:
                told[row] = type(caught)
        return told


class Begin(DeskCase):
    def test_a_world(self):
        desk = Desk()
        self.answers(
            desk, ("begin a\ntree a", "ok"), ("tree", "tree a"), ("book", ""), ("where 0", "house a -"),
            ("lead a 0", "a"), ("row a 0", ""))

    def test_each_right_in_its_house(self):
        desk = begun("d a a c")
        self.answers(
            desk, ("where 0", "house d -"), ("where 1", "house a -"), ("where 2", "house a -"),
            ("where 3", "house c -"))
        self.refused(NoRight, desk, "where 4")

    def test_in_the_midst_of_a_world(self):
        desk = begun("a", "want a x 0", "want b y 0", "fall d")
        self.answers(
            desk, ("begin y\ntree x y\ntie x y", "ok"), ("book", ""), ("tree", "tree x y\ntie x y"),
            ("where 0", "house y -"))
        self.refused(NoHouse, desk, "want a x 0", "fall d", "lead a 0")
        self.answers(desk, (f"begin a\n{LINE}", "ok"), ("want d y 0", "sends d c 0 ask"))

    def test_that_is_refused_leaves_the_world_that_stands(self):
        desk = begun("a", "want a x 0", "want b y 0", "fall d")
        self.refused(NoLine, desk, "begin", "begin a", "begin \ntree a", "begin A\ntree a")
        self.refused(NoText, desk, "begin a\n", "begin a\ntree b a", "begin a\ntree a b")
        self.refused(NoHouse, desk, "begin b\ntree a", "begin a b\ntree a")
        self.answers(
            desk, ("book", "want a x 0\ngiven a x 0\nwant b y 0\nsends b a 0 ask\nfall d"), ("come b a", "ok"),
            ("where 0", "house a x"))

    def test_that_is_refused_leaves_no_world(self):
        desk = Desk()
        for row, refusal in (("begin a", NoLine), ("begin a\ntree", NoText), ("begin b\ntree a", NoHouse)):
            self.refuse(refusal, desk, desk.say, row)
            self.refused(NoLine, desk, "tree", "book", "mend")

    def test_houses_that_are_not_written_as_told(self):
        for desk in (Desk(), begun("a")):
            for word in [word for word in NO_NAME_TEXTS if word != "a b" and "\n" not in word]:
                for tree in (LINE, "no tree", ""):
                    for places in (word, f"a {word}", f"{word} a"):
                        self.refuse(NoLine, desk, desk.say, f"begin {places}\n{tree}")
            for first in (
                    "begin", "begin ", "begin  a", "begin a ", " begin a", "begin a  b", "begin a b c A", "Begin a",
                    "begins a", "begin a, b", "begina", "\nbegin a", "begin -", "begin 0", "begin \na", "begin\na"):
                self.refuse(NoLine, desk, desk.say, f"{first}\n{LINE}")
            for row in ("begin", "begin ", "begin a", "begin a b", "begin a tree a", "begin A", "begin \n", "begin\n"):
                self.refuse(NoLine, desk, desk.say, row)

    def test_a_tree_that_can_not_be_read(self):
        for desk in (Desk(), begun("a")):
            for tree, line in (
                    ("", 0), ("tree", 0), ("tree b a", 0), ("no", 0), ("\n" + LINE, 0), (" tree a", 0), ("tree a\n", 1),
                    ("tree a b", 1), ("tree a b\ntie b a", 1), ("tree a b\ntie a c", 1), ("tree a b c\ntie a b", 2),
                    ("tree a b c\ntie b c\ntie a b", 2), ("tree a b c\ntie a b\ntie a c\ntie b c", 3),
                    (LINE + "\n", 4)):
                for places in ("a", "a b", "nowhere"):
                    self.refuse(NoText, desk, desk.say, f"begin {places}\n{tree}")
                    try:
                        desk.say(f"begin {places}\n{tree}")
                    except NoText as caught:
                        self.same(caught.line, line)

    def test_houses_that_are_not_of_the_tree(self):
        for desk in (Desk(), begun("a")):
            for places in ("e", "a e", "e a", "tree", "a b c d e"):
                self.refuse(NoHouse, desk, desk.say, f"begin {places}\n{LINE}")


class Rows(DeskCase):
    def test_each_kind_with_what_comes_of_it(self):
        self.answers(
            begun("a c"),
            ("want a x 0", "given a x 0"), ("want b y 0", "sends b a 0 ask"), ("come b a", "ok"),
            ("want a z any", "sends a b 1 ask"), ("leave a z", "ok"), ("want a w 0", "ok"),
            ("done a x", "sends a b 0 back"), ("cut b c", "ok"), ("want b q 1", "sends b c 1 ask\nlost b c 1 ask"),
            ("come a b", "ok"), ("come a b", "given b y 0"), ("fall c", "ok"), ("done b y", "sends b a 0 right"),
            ("fall b", "lost b a 0 right"),
            ("mend + b - c", "anew 0 a\nanew 1 a\ngiven a w 0\nsends b a 1 ask"),
            ("tree", "tree a b d\ntie a b\ntie b d"), ("mend", "lost b a 1 ask\nsends b a 1 ask"),
            ("come b a", "sends a b 1 right"), ("cut a b", "lost a b 1 right"), ("fall a", "ok"),
            ("mend - a", "anew 0 b\nanew 1 b\ngiven b q 1"))

    def test_ok_where_nothing_comes_of_it(self):
        self.answers(
            begun("a"), ("mend", "ok"), ("want a x 0", "given a x 0"), ("want a y 0", "ok"), ("leave a y", "ok"),
            ("done a x", "ok"), ("cut a b", "ok"), ("fall b", "ok"), ("mend + b", "ok"), ("fall b", "ok"),
            ("mend - b", "ok"))

    def test_the_book_has_the_rows_too(self):
        desk = begun("a", "want a x any", "fall c", "mend + c", "cut b a")
        self.answers(desk, ("book", "want a x any\ngiven a x 0\nfall c\nmend + c\ncut b a"))

    def test_refused_as_a_world_does(self):
        desk = begun("a b", "want a x 0", "want c y 0", "fall d")
        self.refused(
            NoHouse, desk, "want e x 0", "leave e x", "done e x", "come e a", "come a e", "come d e", "fall e",
            "cut e a", "cut a e")
        self.refused(NoTie, desk, "come a c", "cut a c", "come a a", "cut d d", "come a d")
        self.refused(Down, desk, "want d x 0", "leave d x", "done d x", "come c d", "come d c", "fall d", "cut c d")
        self.refused(
            NoAsker, desk, "want a x 0", "want a x any", "want c y 1", "leave a x", "leave b x", "done c y", "done b x")
        self.refused(NoRight, desk, "want a x 2", "want a q 2", "want a q 999999")
        self.refused(NoLetter, desk, "come a b", "come b a", "come b c")
        self.refused(NoMend, desk, "mend + a", "mend - a", "mend + d + d", "mend + d - d", "mend - e")
        run_down = begun("a", "fall a", tree="tree a")
        self.refused(NoMend, run_down, "mend - a")


class Questions(DeskCase):
    def test_where(self):
        desk = begun("b c")
        self.answers(desk, ("where 0", "house b -"), ("want b x 0", "given b x 0"), ("where 0", "house b x"))
        self.answers(desk, ("want c x 0", "sends c b 0 ask"), ("come c b", "ok"), ("done b x", "sends b c 0 right"))
        self.answers(desk, ("where 0", "way b c"), ("where 1", "house c -"), ("fall c", "lost b c 0 right"))
        self.answers(desk, ("where 0", "lost"), ("where 1", "lost"))
        self.refused(NoRight, desk, "where 2", "where 3", "where 10", "where 999999")

    def test_lead(self):
        desk = begun("a d", "cut a b")
        self.answers(desk, ("lead d 0", "d c b a"), ("lead a 0", "a"), ("lead a 1", "a b c d"), ("lead c 1", "c d"))
        desk.say("fall b")
        self.answers(desk, ("lead d 0", "d c b"), ("lead a 1", "a b"))
        self.refused(NoHouse, desk, "lead e 0", "lead e 2", "lead zz 1")
        self.refused(Down, desk, "lead b 0", "lead b 2")
        self.refused(NoRight, desk, "lead a 2", "lead d 999999")

    def test_row(self):
        desk = begun("a b", "want a x 0", "want a y 0", "want b z 0", "come b a", "want a house 0", "want d w 1")
        self.answers(desk, ("row a 0", "asker y\nhouse b\nasker house"), ("row a 1", ""), ("row b 0", "asker z"))
        self.answers(desk, ("row c 0", ""), ("row d 1", "asker w"), ("row d 0", ""))
        desk.say("fall b")
        self.refused(NoHouse, desk, "row e 0", "row e 5")
        self.refused(Down, desk, "row b 0", "row b 5")
        self.refused(NoRight, desk, "row a 2", "row d 5")

    def test_ahead(self):
        desk = begun("a", "want a x 0", "want a y 0", "want b z 0")
        self.answers(desk, ("ahead a y", "1"), ("ahead b z", "none"), ("come b a", "ok"), ("ahead b z", "2"))
        desk.say("fall d")
        self.refused(NoHouse, desk, "ahead e y", "ahead tree y")
        self.refused(Down, desk, "ahead d y", "ahead d nobody")
        self.refused(NoAsker, desk, "ahead a x", "ahead a z", "ahead b y", "ahead c q", "ahead a b")

    def test_ahead_of_two_figures(self):
        desk = begun("a", *[f"want a {name} 0" for name in "abcdefghijklm"])
        self.answers(desk, ("ahead a k", "10"), ("ahead a m", "12"), ("ahead a b", "1"))

    def test_tree_and_book(self):
        desk = begun("a")
        self.answers(desk, ("tree", LINE), ("book", ""), ("fall b", "ok"), ("tree", LINE), ("mend - b", "ok"))
        self.answers(desk, ("tree", "tree a c d\ntie a c\ntie c d"), ("book", "fall b\nmend - b"))

    def test_asking_changes_nothing(self):
        desk = begun("a", "want a x 0", "want b y 0", "come b a")
        told = self.told(desk)
        for unused in range(3):
            self.assertEqual(self.told(desk), told)


class NoLines(DeskCase):
    def test_all_ahead_of_any_begin(self):
        for row in ROWS + QUESTIONS + LINES + ["", "no", "where 5", "lead e 0", "row q 9"]:
            desk = Desk()
            self.refused(NoLine, desk, row)

    def test_lines_that_are_no_rows(self):
        desk = begun("a", "want a x 0", "want b y 0")
        self.refused(NoLine, desk, *LINES, "given a x", "lost", "sends a b 0", "anew a")

    def test_what_is_no_row(self):
        desk = begun("a")
        self.refused(
            NoLine, desk, "", " ", "ok", "no", "wants a x 0", "Want a x 0", "tie a b", "tree a", "book a",
            "letters a b", "arrows 0", "chain a x", "house a", "is_down a", "quit", "-", "+", "0", "a", "where",
            "begin", "tree a b\ntie a b")

    def test_a_line_feed(self):
        desk = begun("a")
        for row in ROWS + QUESTIONS + LINES:
            self.refused(NoLine, desk, row + "\n", "\n" + row, row + "\n" + row, row.replace(" ", "\n", 1) + "\n")
        self.refused(NoLine, desk, "\n", "tree\n" + LINE, f"{LINE}", "want a x\n0", "lead\na 0", "book\nbook")

    def test_blanks(self):
        desk = begun("a")
        for row in ROWS + QUESTIONS:
            self.refused(NoLine, desk, row + " ", " " + row)
            if " " in row:
                self.refused(NoLine, desk, row.replace(" ", "  "), row.replace(" ", "  ", 1), row.replace(" ", ""))

    def test_a_word_too_few_or_too_many(self):
        desk = begun("a")
        for row in ROWS + QUESTIONS:
            for word in ("a", "0", "x", "any", "-", "+"):
                self.refused(NoLine, desk, f"{row} {word}")
            if " " in row and row != "mend + d" and row != "mend - d":
                self.refused(NoLine, desk, row.rpartition(" ")[0])
        self.refused(NoLine, desk, "mend +", "mend -", "mend a", "mend - a + b")

    def test_names_that_are_not_written_as_told(self):
        desk = begun("a", "want a x 0")
        for word in NO_NAME_TEXTS:
            self.refused(
                NoLine, desk, f"want {word} x 0", f"want a {word} 0", f"leave {word} x", f"leave a {word}",
                f"done {word} x", f"done a {word}", f"come {word} a", f"come a {word}", f"fall {word}",
                f"cut {word} a", f"cut a {word}", f"mend + {word}", f"mend - {word}", f"lead {word} 0",
                f"row {word} 0", f"ahead {word} x", f"ahead a {word}")

    def test_numbers_that_are_not_written_as_told(self):
        desk = begun("a", "want a x 0")
        for word in (
                "", "00", "01", "+0", "-1", "1000000", "0000000", "a", "1.0", "1_0", "None", "-", "0 ", "\n0", "0\n"):
            self.refused(
                NoLine, desk, f"want a y {word}", f"where {word}", f"lead a {word}", f"row a {word}")
        self.refused(NoLine, desk, "where any", "lead a any", "row a any", "where any", "want a y Any")

    def test_ahead_of_what_the_stages_refuse(self):
        desk = begun("a", "fall d")
        self.refused(
            NoLine, desk, "want e x 00", "lead e 00", "row d 01", "ahead e X", "want d x -1", "come e A", "mend + e f")

    def test_what_is_no_text(self):
        for desk in (Desk(), begun("a")):
            for thing in [None] + other_kinds() + [("fall", "a"), ["fall a"], b"tree", Tree(["a"], [])]:
                self.refuse(NoLine, desk, desk.say, thing)
        self.refused(NoLine, begun("a"), None, 0, ("fall", "a"), ["tree"], b"tree")


class Desks(DeskCase):
    def test_two_by_turns(self):
        one, other = Desk(), Desk()
        self.answers(one, (f"begin a\n{LINE}", "ok"))
        self.refused(NoLine, other, "tree", "book", "where 0", "want a x 0")
        self.answers(other, ("begin b b\ntree a b\ntie a b", "ok"))
        self.answers(one, ("want a x 0", "given a x 0"), ("tree", LINE))
        self.answers(
            other, ("want a x 0", "sends a b 0 ask"), ("tree", "tree a b\ntie a b"),
            ("book", "want a x 0\nsends a b 0 ask"))
        self.answers(one, ("book", "want a x 0\ngiven a x 0"), ("fall b", "ok"), ("where 0", "house a x"))
        self.answers(other, ("come a b", "sends b a 0 right"), ("where 0", "way b a"))
        self.answers(one, (f"begin d\n{LINE}", "ok"), ("book", ""))
        self.answers(other, ("where 0", "way b a"), ("where 1", "house b -"))


class AgainstTheModules(Moments):
    """A desk answers as the modules do that it stands before."""

    def asked(self, desk, row):
        try:
            return desk.say(row)
        except TreeError as caught:
            return type(caught)

    def due(self, deed, *things):
        try:
            return deed(*things)
        except TreeError as caught:
            return type(caught)

    def questions(self, drawing, world, many):
        """Each question with its answer, of drawn houses, askers and rights."""
        house = drawing.choice(world.tree().houses() + ["none"])
        asker = drawing.choice(["a", "b", "ann", "bob", "none"])
        right = drawing.randrange(many + 1)
        return {
            f"where {right}": lambda: " ".join(["-" if part is None else part for part in where(world, right)]),
            f"lead {house} {right}": lambda: " ".join(lead(world, house, right)),
            f"row {house} {right}": lambda: "\n".join(" ".join(one) for one in world.house(house).row(right)),
            f"ahead {house} {asker}": lambda: str(ahead(world, house, asker)).lower(),
            "tree": lambda: show_tree(world.tree()),
            "book": lambda: show_book(world.book()),
        }

    def test_in_drawn_runs(self):
        for seed in range(1600, 1625):
            drawing, tree, places = drawn_start(seed, 8)
            desk, world, plain = Desk(), World(tree, places), PlainWorld(tree, places)
            self.same(desk.say(f"begin {' '.join(places)}\n{show_tree(tree)}"), "ok")
            for unused in range(80):
                row = drawn_row(drawing, plain, ["a", "b", "ann", "bob"])
                if row is None or drawing.random() < 0.1:
                    row = drawn_fall(drawing, plain)
                if drawing.random() < 0.1:
                    row = ("leave", drawing.choice(tree.houses()), "nobody")
                plain.put(row)
                lines = self.due(world.put, row)
                answer = lines if isinstance(lines, type) else show_book(lines[1:]) or "ok"
                self.same(self.asked(desk, show_line(row)), answer, row)
                for question, tell in self.questions(drawing, world, len(places)).items():
                    self.same(self.asked(desk, question), self.due(tell), question)
            self.same(read_book(desk.say("book")), world.book())

    def test_garbled_rows_are_refused_with_no_line_or_known(self):
        drawing = random.Random(11)
        kinds = (NoHouse, NoTie, Down, NoAsker, NoRight, NoLetter, NoMend)
        rows = ROWS + QUESTIONS + LINES
        for unused in range(4000):
            desk = begun("a b", "want a x 0", "want b y 0", "fall d")
            row = drawing.choice(rows)
            at = drawing.randrange(len(row) + 1)
            row = row[:at] + drawing.choice(["", " ", "a", "0", "\n", "-", "A"]) + row[at + drawing.randrange(2):]
            stood = insides(vars(desk))
            try:
                answer = desk.say(row)
            except TreeError as caught:
                self.assertIn(type(caught), kinds + (NoLine,))
                self.assertEqual(insides(vars(desk)), stood)
            else:
                self.assertIs(type(answer), str)


if __name__ == "__main__":
    unittest.main()
