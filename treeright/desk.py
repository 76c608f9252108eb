"""The desk: a world that is told and asked by texts."""

from treeright.chains import ahead
from treeright.errors import NoLine, NoText
from treeright.rows import LENGTHS
from treeright.standing import lead, where
from treeright.texts import read_line, read_parts, read_tree, show_book, show_tree
from treeright.trees import are_names
from treeright.world import World

# How each part behind the first word of a question is written.
QUESTIONS = {
    "where": ("number",),
    "lead": ("name", "number"),
    "row": ("name", "number"),
    "ahead": ("name", "name"),
    "tree": (),
    "book": (),
}


def tell_where(world, parts):
    """Where a right is, in words."""
    return " ".join(["-" if part is None else part for part in where(world, parts[0])])


def tell_lead(world, parts):
    """The houses by which the arrows of a right lead from a house."""
    return " ".join(lead(world, parts[0], parts[1]))


def tell_row(world, parts):
    """Those that wait at a house for a right."""
    return "\n".join([f"{kind} {name}" for kind, name in world.house(parts[0]).row(parts[1])])


def tell_ahead(world, parts):
    """How many may go ahead of an asker."""
    many = ahead(world, parts[0], parts[1])
    return "none" if many is None else str(many)


def tell_tree(world, parts):
    """The tree as it is now."""
    return show_tree(world.tree())


def tell_book(world, parts):
    """All lines that were told."""
    return show_book(world.book())


ANSWERS = {
    "where": tell_where,
    "lead": tell_lead,
    "row": tell_row,
    "ahead": tell_ahead,
    "tree": tell_tree,
    "book": tell_book,
}


def read_question(word, words):
    """What the words behind a question's first one tell."""
    parts = read_parts(QUESTIONS[word], words)
    if parts is None:
        raise NoLine("this question isn't written so")
    return parts


def read_row(text):
    """The row that a text tells."""
    try:
        row = read_line(text)
    except NoText:
        raise NoLine("this is no row, or isn't written so") from None
    if row[0] not in LENGTHS:
        raise NoLine("this line is no row")
    return row


def read_begin(text):
    """The tree and the houses that have the rights at first, of a begin's text."""
    first, feed, others = text.partition("\n")
    # A blank stands behind begin, so that there is one word at least.
    places = first.split(" ")[1:]
    if feed == "" or not are_names(places):
        raise NoLine("a begin has names, a line feed and a tree")
    return read_tree(others), places


class Desk:
    """A desk with at most one world, none at first."""

    def __init__(self):
        self.world = None

    def say(self, row):
        """Answer a row by a text."""
        if not isinstance(row, str):
            raise NoLine("a row is a text")
        if row.startswith("begin "):
            return self.begin(row)
        if self.world is None:
            raise NoLine("there is no world yet")
        word, *words = row.split(" ")
        if word in QUESTIONS:
            answer = ANSWERS[word]
            return answer(self.world, read_question(word, words))
        lines = self.world.put(read_row(row))
        return show_book(lines[1:]) if len(lines) > 1 else "ok"

    def begin(self, text):
        """A new world takes the place of the one that stands."""
        tree, places = read_begin(text)
        self.world = World(tree, places)
        return "ok"
