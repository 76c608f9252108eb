"""The judge of books: whether right houses can have written one, and whether two of them end alike."""

from treeright.errors import TreeError
from treeright.trees import is_whole
from treeright.world import World


def is_part(thing, due):
    """Whether a thing is just this text or whole number."""
    if isinstance(due, str):
        return isinstance(thing, str) and thing == due
    return is_whole(thing) and thing == due


def is_line(thing, due):
    """Whether a thing is just this line, kind by kind."""
    if not isinstance(thing, tuple) or len(thing) != len(due):
        return False
    return all([is_part(part, told) for part, told in zip(thing, due)])


def lines_told(world, row):
    """What a world tells of a row, or None where it refuses it."""
    try:
        return world.put(row)
    except TreeError:
        return None


def first_unlike(due, book, start):
    """The first line that isn't as is due from this place of a book on, with its word; None where all are."""
    for number, line in enumerate(due, start=start):
        if number == len(book):
            return (number, "end")
        if not is_line(book[number], line):
            return (number, "line")
    return None


def first_wrong(world, book):
    """The first wrong line of a book whose rows a new world is told, with its word; None where it is right."""
    if not isinstance(book, list):
        return (0, "row")
    number = 0
    while number < len(book):
        lines = lines_told(world, book[number])
        if lines is None:
            return (number, "row")
        # The row itself stands there as it was told, so only what comes of it can be otherwise.
        wrong = first_unlike(lines[1:], book, number + 1)
        if wrong is not None:
            return wrong
        number += len(lines)
    return None


def judge(tree, places, book):
    """None where a world of this tree and these places writes just this book; else the first wrong line."""
    return first_wrong(World(tree, places), book)


def end_alike(tree, places, one, other):
    """Whether two books are right and all stands the same behind them."""
    first = World(tree, places)
    second = World(tree, places)
    if first_wrong(first, one) is not None or first_wrong(second, other) is not None:
        return False
    return first.state() == second.state()
