"""Trees, lines and books as texts, and what reads them."""

import random
import re
import unittest

from helper import Case, Moments, NO_NAME_TEXTS, drawn_tree, insides, other_kinds, spoil
from treeright.errors import NoText
from treeright.texts import read_book, read_line, read_tree, show_book, show_line, show_tree
from treeright.trees import Tree

# Each kind of row and line, with its text.
PAIRS = [
    (("want", "a", "ann", 0), "want a ann 0"), (("want", "a", "ann", 3), "want a ann 3"),
    (("want", "a", "ann", None), "want a ann any"), (("want", "any", "any", None), "want any any any"),
    (("leave", "a", "ann"), "leave a ann"), (("done", "house", "b"), "done house b"),
    (("come", "a", "b"), "come a b"), (("come", "a", "a"), "come a a"), (("fall", "zz"), "fall zz"),
    (("cut", "b", "a"), "cut b a"), (("cut", "abcdefgh", "aaaaaaaa"), "cut abcdefgh aaaaaaaa"),
    (("mend", [], []), "mend"), (("mend", ["a"], []), "mend + a"), (("mend", [], ["b"]), "mend - b"),
    (("mend", ["a"], ["b"]), "mend + a - b"), (("mend", ["c", "a"], []), "mend + c + a"),
    (("mend", [], ["c", "a"]), "mend - c - a"), (("mend", ["a", "a"], ["a"]), "mend + a + a - a"),
    (("mend", ["z", "b", "m"], ["y", "c", "x", "d"]), "mend + z + b + m - y - c - x - d"),
    (("given", "a", "ann", 0), "given a ann 0"), (("given", "right", "ask", 2), "given right ask 2"),
    (("sends", "a", "b", 1, "ask"), "sends a b 1 ask"), (("sends", "a", "b", 0, "right"), "sends a b 0 right"),
    (("sends", "b", "a", 2, "back"), "sends b a 2 back"),
    (("sends", "ask", "back", 2, "right"), "sends ask back 2 right"),
    (("lost", "a", "b", 1, "ask"), "lost a b 1 ask"), (("lost", "a", "b", 0, "right"), "lost a b 0 right"),
    (("lost", "b", "a", 2, "back"), "lost b a 2 back"),
    (("anew", 0, "a"), "anew 0 a"), (("anew", 3, "zz"), "anew 3 zz"),
]

NUMBERS = [0, 1, 7, 9, 10, 42, 99, 100, 805, 999, 1000, 9999, 10000, 54321, 99999, 100000, 900009, 999999]
NO_NUMBERS = [
    "", "00", "01", "007", "000000", "+1", "-1", "-0", "+0", "1.0", "1.", ".1", "1e3", "0x1", "1_0", "1,0", "a", "1a",
    "a1", "any", "Any", "none", "None", "-", "~", "1000000", "1234567", "0000001", "1" * 50, "0 ", "\n0", "0\n", "True",
]

TREES = [
    (Tree(["a"], []), "tree a"),
    (Tree(["b", "a"], [("b", "a")]), "tree a b\ntie a b"),
    (Tree(["hub", "c", "b", "a"], [("hub", "c"), ("b", "hub"), ("hub", "a")]),
     "tree a b c hub\ntie a hub\ntie b hub\ntie c hub"),
    (Tree(["d", "c", "b", "a"], [("d", "c"), ("b", "c"), ("a", "b")]), "tree a b c d\ntie a b\ntie b c\ntie c d"),
    (Tree(["tie", "tree"], [("tree", "tie")]), "tree tie tree\ntie tie tree"),
    (Tree(["a", "aa", "ab", "b"], [("b", "aa"), ("aa", "a"), ("ab", "a")]),
     "tree a aa ab b\ntie a aa\ntie a ab\ntie aa b"),
]


class TextCase(Case):
    def unread(self, line, deed, text):
        """A text is refused with NoText, which bears this line."""
        handed = insides(text)
        try:
            told = deed(text)
        except ValueError as caught:
            self.assertIs(type(caught), NoText, text)
            self.same(caught.line, line, text)
        else:
            self.fail(f"{text!r} isn't refused, but read as {told!r}")
        self.assertEqual(insides(text), handed)


class Lines(TextCase):
    def test_each_kind_is_written_and_read(self):
        for line, text in PAIRS:
            self.same(show_line(line), text)
            self.same(read_line(text), line)

    def test_numbers_of_one_to_six_figures(self):
        for number in NUMBERS:
            for line in (("want", "a", "b", number), ("given", "a", "b", number), ("sends", "a", "b", number, "ask"),
                         ("lost", "a", "b", number, "back"), ("anew", number, "b")):
                text = " ".join(str(part) for part in line)
                self.same(show_line(line), text)
                self.same(read_line(text), line)

    def test_what_is_no_number(self):
        for word in NO_NUMBERS:
            for text in (f"given a b {word}", f"sends a b {word} ask", f"lost a b {word} ask", f"anew {word} a"):
                self.unread(0, read_line, text)
            if word != "any":
                self.unread(0, read_line, f"want a b {word}")

    def test_signs_that_are_no_figures(self):
        for sign in [chr(code) for code in range(32, 127) if chr(code) not in "0123456789"] + ["\n"]:
            for word in (sign, "1" + sign, sign + "1", "1" + sign + "1"):
                for text in (f"want a b {word}", f"given a b {word}", f"anew {word} a"):
                    self.unread(0, read_line, text)

    def test_any_stands_in_want_alone(self):
        for text in (
                "given a b any", "sends a b any ask", "lost a b any right", "anew any a", "mend any", "mend + any any"):
            self.unread(0, read_line, text)
        self.same(read_line("mend + any"), ("mend", ["any"], []))
        self.same(read_line("fall any"), ("fall", "any"))

    def test_what_is_no_name(self):
        for word in NO_NAME_TEXTS:
            for text in (
                    f"want {word} b 0", f"want a {word} 0", f"want {word} b any", f"leave {word} b", f"leave a {word}",
                    f"done {word} b", f"done a {word}", f"come {word} b", f"come a {word}", f"fall {word}",
                    f"cut {word} b", f"cut a {word}", f"given {word} b 0", f"given a {word} 0", f"anew 0 {word}",
                    f"sends {word} b 0 ask", f"sends a {word} 0 ask", f"lost {word} b 0 ask", f"lost a {word} 0 ask",
                    f"mend + {word}", f"mend - {word}", f"mend + a + {word}", f"mend + {word} - a",
                    f"mend - a - {word}"):
                self.unread(0, read_line, text)

    def test_words_of_letters(self):
        for word in ("", "asks", "Ask", "rights", "given", "a", "0", "any", "+", "ask ", "back\n"):
            self.unread(0, read_line, f"sends a b 0 {word}")
            self.unread(0, read_line, f"lost a b 0 {word}")

    def test_another_first_word(self):
        for word in (
                "", "wants", "Want", "WANT", "wan", "tree", "tie", "begin", "where", "row", "book", "ok", "0", "-",
                "+", "ask", "send", "losts", "want\n", "any"):
            for rest in ("", " a", " a b", " a b 0", " a b any", " a b 0 ask", " 0 a", " 0", " + a"):
                self.unread(0, read_line, word + rest)

    def test_a_word_too_few_or_too_many_and_blanks(self):
        for line, text in PAIRS:
            words = text.split(" ")
            if words[0] != "mend":
                self.unread(0, read_line, " ".join(words[:-1]))
                for more in ("a", "0", "ask", "any"):
                    self.unread(0, read_line, f"{text} {more}")
            for at in range(len(words)):
                self.unread(0, read_line, " ".join(words[:at] + [""] + words[at:]))
            for other in (" " + text, text + " ", text + "\n", "\n" + text, text.replace(" ", "\n", 1) + "\n",
                          text.upper(), text.capitalize(), text + ".", text.replace(" ", "  ")):
                if other != text:
                    self.unread(0, read_line, other)

    def test_a_line_feed(self):
        for text in ("fall a\nfall b", "fall\na", "fall a\n", "\nfall a", "mend\n", "mend\n+ a", "want a b 0\n", "\n"):
            self.unread(0, read_line, text)

    def test_the_text_without_signs(self):
        self.unread(0, read_line, "")

    def test_mendings_that_are_written_otherwise(self):
        for text in ("mend a", "mend +", "mend -", "mend +a", "mend -a", "mend + a b", "mend a + b", "mend + a +",
                     "mend - a + b", "mend + a - b + c", "mend - a + b - c", "mend + + a", "mend + - a", "mend - a -",
                     "mend + a * b", "mend * a", "mend + a  - b", "mend + a - b ", "mend [] []", "mend 0", "mend + 0",
                     "mend + A", "mend + abcdefghi", "mend + -", "mend - +", "mend + a - -"):
            self.unread(0, read_line, text)

    def test_what_is_no_text(self):
        for thing in [None] + other_kinds() + [("fall", "a"), ["fall a"], b"fall a"]:
            self.unread(0, read_line, thing)


def in_words(text):
    """What a text is as a line, by a pattern for each kind; None where it is none."""
    name, number, word = "([a-z]{1,8})", "(0|[1-9][0-9]{0,5})", "(ask|right|back)"
    two = f"{name} {name}"
    patterns = [
        f"(want) {two} (any|0|[1-9][0-9]{{0,5}})", f"(leave|done|come|cut) {two}", f"(fall) {name}",
        f"(given) {two} {number}", f"(sends|lost) {two} {number} {word}", f"(anew) {number} {name}"]
    for pattern in patterns:
        found = re.fullmatch(pattern, text)
        if found:
            parts = [int(part) if part.isdigit() else part for part in found.groups()]
            return tuple(parts[:-1] + [None] if parts[0] == "want" and parts[-1] == "any" else parts)
    found = re.fullmatch("mend((?: \\+ [a-z]{1,8})*)((?: - [a-z]{1,8})*)", text)
    return ("mend", found.group(1).split(" + ")[1:], found.group(2).split(" - ")[1:]) if found else None


def garbled(drawing, text):
    """A text with a sign or a word of it otherwise."""
    signs = "ab z019+-A~\n " + text
    at = drawing.randrange(len(text) + 1)
    words = text.split(" ")
    place = drawing.randrange(len(words))
    other = drawing.choice(["a", "0", "any", "ask", "+", "-", "mend", "want", "", "12", "zz", "given", "tie", "tree"])
    return drawing.choice([
        text[:at] + drawing.choice(signs) + text[at:], text[:at] + text[at + 1:],
        text[:at] + drawing.choice(signs) + text[at + 1:], " ".join(words[:place] + [other] + words[place + 1:]),
        " ".join(words[:place] + [other] + words[place:]), " ".join(words[:place] + words[place + 1:])])


class GarbledLines(TextCase):
    def test_read_is_just_what_is_written(self):
        drawing, read, refused = random.Random(5), 0, 0
        for unused in range(15000):
            text = drawing.choice(PAIRS)[1]
            for again in range(drawing.randint(1, 3)):
                text = garbled(drawing, text)
            due = in_words(text)
            if due is None:
                refused += 1
                self.unread(0, read_line, text)
            else:
                read += 1
                self.same(read_line(text), due)
                self.same(show_line(due), text)
        self.assertGreater(min(read, refused), 1000)

    def test_books(self):
        drawing, read, refused = random.Random(6), 0, 0
        for unused in range(3000):
            texts = [pair[1] for pair in drawing.sample(PAIRS, drawing.randint(1, 5))]
            if drawing.random() < 0.7:
                at = drawing.randrange(len(texts))
                texts[at] = garbled(drawing, texts[at])
            text = "\n".join(texts)
            due = [in_words(line) for line in text.split("\n")] if text else []
            if None in due:
                refused += 1
                self.unread(due.index(None), read_book, text)
            else:
                read += 1
                self.same(read_book(text), due)
                self.same(show_book(due), text)
        self.assertGreater(min(read, refused), 500)


class Books(TextCase):
    def test_without_lines(self):
        self.same(show_book([]), "")
        self.same(read_book(""), [])

    def test_of_one_line_and_of_all(self):
        for line, text in PAIRS:
            self.same(show_book([line]), text)
            self.same(read_book(text), [line])
        lines, text = [line for line, text in PAIRS], "\n".join(text for line, text in PAIRS)
        self.same(show_book(lines), text)
        self.same(read_book(text), lines)

    def test_the_first_line_that_can_not_be_read(self):
        good = ["want a x 0", "sends a b 0 ask", "come a b", "given b y 0", "mend + a - b"]
        for bad in ("", " ", "fall", "fall a b", "want a x 00", "mend - a + b", "tree a", "Fall a", "want  a x 0"):
            for at in range(len(good) + 1):
                texts = good[:at] + [bad] + good[at:]
                self.unread(at, read_book, "\n".join(texts))
                self.unread(at, read_book, "\n".join(texts + [bad, "worse"]))

    def test_line_feeds_ahead_behind_and_twice(self):
        self.unread(1, read_book, "fall a\n")
        self.unread(0, read_book, "\nfall a")
        self.unread(0, read_book, "\n")
        self.unread(1, read_book, "fall a\n\nfall b")
        self.unread(2, read_book, "fall a\nfall b\n")

    def test_what_is_no_text(self):
        for thing in [None] + other_kinds() + [["fall a"], [("fall", "a")], b"fall a"]:
            self.unread(0, read_book, thing)

    def test_a_long_one(self):
        text = "\n".join(["want a x 0", "given a x 0", "done a x"] * 400)
        self.same(show_book(read_book(text)), text)
        self.unread(1200, read_book, text + "\nno")


class OfRuns(Moments):
    def test_books_are_read_to_the_same(self):
        for seed in range(1500, 1520):
            for world, plain, row in self.drawn(seed, 80, 0.1):
                pass
            book = world.book()
            self.same(read_book(show_book(book)), book)
            self.same([read_line(show_line(line)) for line in book], book)
            self.same(show_book(book).split("\n"), [show_line(line) for line in book])
            tree, read = world.tree(), read_tree(show_tree(world.tree()))
            self.same([read.houses(), read.ties()], [tree.houses(), tree.ties()])


class Trees(TextCase):
    def test_written_and_read(self):
        for tree, text in TREES:
            self.same(show_tree(tree), text)
            read = read_tree(text)
            self.assertIs(type(read), Tree)
            self.same([read.houses(), read.ties()], [tree.houses(), tree.ties()])
            self.same(show_tree(read), text)

    def test_of_many_houses(self):
        drawing = random.Random(8)
        for unused in range(100):
            tree = drawn_tree(drawing, drawing.randint(1, 12))
            read = read_tree(show_tree(tree))
            self.same([read.houses(), read.ties()], [tree.houses(), tree.ties()])

    def test_the_line_of_houses(self):
        for text in (
                "", " ", "tree", "tree ", " tree a", "tree  a", "tree a ", "Tree a", "trees a", "a", "tie a b",
                "tree A", "tree abcdefghi", "tree 0", "tree a b1", "tree b a", "tree a a", "tree a c b", "tree aa a",
                "tree a,b", "\n", "\ntree a", "tree\na"):
            self.unread(0, read_tree, text)
            self.unread(0, read_tree, text + "\ntie a b")

    def test_a_line_of_a_tie_that_can_not_be_read(self):
        for line in (
                "", " ", "tie", "tie a", "tie b", "tie a b c", "tie  a b", "tie a  b", "tie a b ", " tie a b",
                "Tie a b", "ties a b", "a b", "tie A b", "tie a abcdefghi", "tie a 0", "tie - b", "tree a b",
                "tie a-b", "tie ab"):
            self.unread(1, read_tree, "tree a b\n" + line)
            self.unread(1, read_tree, "tree a b c\n" + line + "\ntie b c")
            self.unread(2, read_tree, "tree a b c\ntie a b\n" + line)
            self.unread(2, read_tree, "tree a b c\ntie a b\n" + line + "\n" + line)

    def test_a_tie_of_a_name_that_is_no_house(self):
        self.unread(1, read_tree, "tree a b\ntie a c")
        self.unread(1, read_tree, "tree b c\ntie a c")
        self.unread(2, read_tree, "tree a b c\ntie a b\ntie b d")
        self.unread(1, read_tree, "tree a b c\ntie tie tree\ntie b d")

    def test_a_tie_whose_lesser_name_is_not_first(self):
        self.unread(1, read_tree, "tree a b\ntie b a")
        self.unread(1, read_tree, "tree a b\ntie a a")
        self.unread(2, read_tree, "tree a b c\ntie a b\ntie c b")
        self.unread(1, read_tree, "tree a aa\ntie aa a")

    def test_a_tie_that_is_not_above_the_tie_ahead(self):
        self.unread(2, read_tree, "tree a b c\ntie b c\ntie a b")
        self.unread(2, read_tree, "tree a b c\ntie a c\ntie a b")
        self.unread(2, read_tree, "tree a b c\ntie a b\ntie a b")
        self.unread(3, read_tree, "tree a b c d\ntie a b\ntie c d\ntie b c")

    def test_a_tie_that_closes_a_ring(self):
        self.unread(3, read_tree, "tree a b c\ntie a b\ntie a c\ntie b c")
        self.unread(3, read_tree, "tree a b c d\ntie a b\ntie a c\ntie b c")
        self.unread(4, read_tree, "tree a b c d\ntie a b\ntie a d\ntie b c\ntie c d")
        self.unread(5, read_tree, "tree a b c d e\ntie a b\ntie a c\ntie a d\ntie b e\ntie d e")
        self.unread(3, read_tree, "tree a b c d\ntie a b\ntie a c\ntie b c\ntie c d")

    def test_a_tie_that_lacks(self):
        self.unread(1, read_tree, "tree a b")
        self.unread(1, read_tree, "tree a b c d")
        self.unread(2, read_tree, "tree a b c\ntie b c")
        self.unread(3, read_tree, "tree a b c d\ntie a b\ntie c d")

    def test_a_tie_too_many(self):
        self.unread(1, read_tree, "tree a\ntie a b")
        self.unread(1, read_tree, "tree a\ntie a a")
        self.unread(2, read_tree, "tree a b\ntie a b\ntie a b")
        self.unread(1, read_tree, "tree a\n")
        self.unread(2, read_tree, "tree a b\ntie a b\n")

    def test_the_first_of_several_that_are_wrong(self):
        self.unread(0, read_tree, "tree b a\ntie b a\nno")
        self.unread(1, read_tree, "tree a b c\ntie c b\nno")
        self.unread(2, read_tree, "tree a b c\ntie b c\ntie a b\nno")
        self.unread(3, read_tree, "tree a b c d\ntie a b\ntie a c\ntie b c\nno")
        self.unread(3, read_tree, "tree a b c d e\ntie a b\ntie a c\nno\ntie a b")

    def test_what_is_no_text(self):
        for thing in [None] + other_kinds() + [Tree(["a"], []), ["tree a"], b"tree a"]:
            self.unread(0, read_tree, thing)

    def due_tree(self, text):
        """The houses and ties of a tree's text, or the number of the first line that can't stand."""
        first, *rest = text.split("\n")
        found = re.fullmatch("tree((?: [a-z]{1,8})+)", first)
        houses = found.group(1).split() if found else []
        if not houses or any(one >= other for one, other in zip(houses, houses[1:])):
            return 0
        ties, groups = [], {house: {house} for house in houses}
        for number, line in enumerate(rest, 1):
            found = re.fullmatch("tie ([a-z]+) ([a-z]+)", line)
            one, other = found.groups() if found else ("", "")
            if one not in houses or other not in houses or one >= other or [(one, other)] <= ties[-1:]:
                return number
            if other in groups[one]:
                return number
            whole = groups[one] | groups[other]
            groups.update({house: whole for house in whole})
            ties.append((one, other))
        return (houses, ties) if len(ties) == len(houses) - 1 else len(rest) + 1

    def test_garbled_ones(self):
        drawing, read, refused = random.Random(9), 0, set()
        for unused in range(6000):
            text = show_tree(drawn_tree(drawing, drawing.randint(1, 6)))
            for again in range(drawing.randint(0, 2)):
                lines = text.split("\n")
                at = drawing.randrange(len(lines))
                text = drawing.choice([
                    garbled(drawing, text), "\n".join(lines[:at] + lines[at + 1:]),
                    "\n".join(lines[:at + 1] + lines[at:]),
                    "\n".join(lines[:at] + [f"tie {drawing.choice('abc')} {drawing.choice('bcd')}"] + lines[at:])])
            due = self.due_tree(text)
            if isinstance(due, int):
                refused.add(due)
                self.unread(due, read_tree, text)
            else:
                read += 1
                tree = read_tree(text)
                self.same((tree.houses(), tree.ties()), due)
                self.same(show_tree(tree), text)
        self.assertGreater(read, 1000)
        self.assertLessEqual(set(range(6)), refused)


class Own(Case):
    def test_what_is_read_is_the_askers_own(self):
        self.own(lambda: read_line("mend + a - b"))
        self.own(lambda: read_line("mend"))
        self.own(lambda: read_book("mend + a - b\nfall a\nmend"))
        self.own(lambda: read_book(""))

    def test_what_is_handed_in_is_not_changed(self):
        lines, again = [line for line, text in PAIRS], [line for line, text in PAIRS]
        ahead = insides(lines)
        show_book(lines)
        for line in lines:
            show_line(line)
        self.assertEqual(insides(lines), ahead)
        self.assertEqual(lines, again)

    def test_what_is_changed_behind_changes_nothing(self):
        lines = [("mend", ["a"], ["b"]), ("fall", "a")]
        text = show_book(lines)
        spoil(lines)
        self.same(text, "mend + a - b\nfall a")
        tree = read_tree("tree a b\ntie a b")
        spoil(tree.houses())
        spoil(tree.ties())
        self.same(show_tree(tree), "tree a b\ntie a b")


if __name__ == "__main__":
    unittest.main()
