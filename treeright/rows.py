"""Rows: the tuples that a world is told."""

from treeright.errors import NoRow

LENGTHS = {"want": 4, "leave": 3, "done": 3, "come": 3, "fall": 2, "cut": 3, "mend": 3}


def check_row(row):
    """Refuse what isn't a tuple that begins with a row's word and is as long as that asks."""
    if not isinstance(row, tuple) or len(row) == 0 or not isinstance(row[0], str):
        raise NoRow("a row is a tuple that begins with a word")
    if LENGTHS.get(row[0]) != len(row):
        raise NoRow("this is no row's word, or the row isn't as long as it asks")


def copy_line(line):
    """The same line, with lists of its own."""
    return tuple([list(part) if isinstance(part, list) else part for part in line])
