"""Texts: trees, lines and books as they are written and read."""

from treeright.errors import NoText
from treeright.trees import Tree, are_houses, are_names, is_name, is_tie, steps_toward, tied_to_each

FIGURES = "0123456789"
MOST_FIGURES = 6
LETTER_WORDS = ("ask", "right", "back")

# How each part behind the first word of a line is written; a mend's parts are as many as its lists ask.
FORMS = {
    "want": ("name", "name", "wish"),
    "leave": ("name", "name"),
    "done": ("name", "name"),
    "come": ("name", "name"),
    "fall": ("name",),
    "cut": ("name", "name"),
    "given": ("name", "name", "number"),
    "sends": ("name", "name", "number", "letter"),
    "lost": ("name", "name", "number", "letter"),
    "anew": ("number", "name"),
}


def is_number(word):
    """Whether a word is a number of one to six figures without a nought ahead."""
    if not 1 <= len(word) <= MOST_FIGURES or not all([sign in FIGURES for sign in word]):
        return False
    return word == "0" or word[0] != "0"


def is_written(form, word):
    """Whether a word is written as a part of this form is."""
    if form == "name":
        return is_name(word)
    if form == "letter":
        return word in LETTER_WORDS
    return is_number(word) or (form == "wish" and word == "any")


def read_part(form, word):
    """What a word that is written so tells."""
    if form in ("name", "letter"):
        return word
    return None if word == "any" else int(word)


def read_parts(forms, words):
    """What words tell that are to be of these forms, or None where they aren't written so."""
    if len(forms) != len(words) or not all([is_written(form, word) for form, word in zip(forms, words)]):
        return None
    return [read_part(form, word) for form, word in zip(forms, words)]


def show_part(part):
    """A name, a word or a number as it is written; None is any right."""
    return "any" if part is None else str(part)


def marked(mark, names):
    """The words of a mend's list: each name with its mark ahead."""
    return [word for name in names for word in (mark, name)]


def read_marked(words):
    """The two lists of a mend, of the words behind its first one, or None where they aren't written so."""
    pairs = list(zip(words[0::2], words[1::2]))
    kept = [name for mark, name in pairs if mark == "+"]
    out = [name for mark, name in pairs if mark == "-"]
    if not are_names(kept + out) or marked("+", kept) + marked("-", out) != words:
        return None
    return [kept, out]


def show_tree(tree):
    """A tree as text: a line of its houses, then one for each tie."""
    return "\n".join([" ".join(["tree"] + tree.houses())] + [f"tie {one} {other}" for one, other in tree.ties()])


def show_line(line):
    """A line or row as text."""
    if line[0] == "mend":
        return " ".join(["mend"] + marked("+", line[1]) + marked("-", line[2]))
    return " ".join([show_part(part) for part in line])


def show_book(lines):
    """Lines as text, a line feed between two."""
    return "\n".join([show_line(line) for line in lines])


def check_text(thing):
    """Refuse what is no text."""
    if not isinstance(thing, str):
        raise NoText(0)


def read_line(text):
    """The line or row that a text tells."""
    check_text(text)
    return read_numbered(text, 0)


def read_book(text):
    """The lines that a text tells."""
    check_text(text)
    if text == "":
        return []
    return [read_numbered(line, number) for number, line in enumerate(text.split("\n"))]


def read_numbered(text, number):
    """The line that a text tells, which has this number among its like."""
    word, *words = text.split(" ")
    parts = read_behind(word, words)
    if parts is None:
        raise NoText(number)
    return tuple([word] + parts)


def read_behind(word, words):
    """What the words behind a line's first one tell, or None where there is no such line."""
    if word == "mend":
        return read_marked(words)
    return read_parts(FORMS[word], words) if word in FORMS else None


def read_tree(text):
    """The tree that a text tells."""
    check_text(text)
    first, *others = text.split("\n")
    houses = read_houses(first)
    ties = []
    for number, line in enumerate(others, start=1):
        ties.append(read_tie(line, number, houses, ties))
    if len(ties) != len(houses) - 1:
        raise NoText(1 + len(others))
    return Tree(houses, ties)


def read_houses(line):
    """The houses that the first line of a tree tells."""
    word, *houses = line.split(" ")
    if word != "tree" or not are_houses(houses) or houses != sorted(houses):
        raise NoText(0)
    return houses


def read_tie(line, number, houses, ties):
    """The tie that a line of a tree tells, which has this number, behind the ties ahead of it."""
    word, *names = line.split(" ")
    tie = tuple(names)
    if word != "tie" or not is_tie(tie, houses) or not rises(tie, ties) or closes_ring(tie, houses, ties):
        raise NoText(number)
    return tie


def rises(tie, ties):
    """Whether a tie has its lesser name first and is above those ahead."""
    return tie[0] < tie[1] and (len(ties) == 0 or ties[-1] < tie)


def closes_ring(tie, houses, ties):
    """Whether a road leads by the ties ahead from one house of a tie to the other."""
    return tie[1] in steps_toward(tied_to_each(houses, ties), tie[0])
