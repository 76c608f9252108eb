"""Chains: by which houses an asker that waits is led to the right, and who may go ahead of it."""

from treeright.errors import NoAsker
from treeright.mending import next_on
from treeright.standing import houses_up


def awaited_right(world, house, asker):
    """The right for which an asker waits at a house."""
    home = world.house(house)
    right = home.right_of(asker)
    if home.inside(right) == asker:
        raise NoAsker("this asker is inside")
    return right


def is_led_on(world, house, right):
    """Whether a house has asked its arrow for a right, and waits in its row."""
    home = world.house(house)
    if not home.has_asked(right):
        return False
    arrow = home.arrow(right)
    return not world.is_down(arrow) and ("house", house) in world.house(arrow).row(right)


def has_right(world, house, right):
    """Whether a right is in a house that is up."""
    return world.house(house).arrow(right) is None


def chain(world, house, asker):
    """The houses by which an asker that waits at a house is led on, that house first."""
    right = awaited_right(world, house, asker)
    passed = [house]
    while is_led_on(world, passed[-1], right):
        passed.append(world.house(passed[-1]).arrow(right))
    return passed


def is_whole_chain(world, house, asker):
    """Whether the last house of an asker's chain has the right."""
    return has_right(world, chain(world, house, asker)[-1], awaited_right(world, house, asker))


def waiting_at(world, house, right):
    """How many askers wait for a right at a house."""
    return len([name for kind, name in world.house(house).row(right) if kind == "asker"])


def waiting_beyond(world, house, neighbour, right):
    """How many askers wait for a right in the houses that are up on a neighbour's side of its tie."""
    tree = world.tree()
    beyond = [name for name in houses_up(world) if next_on(tree, house, name) == neighbour]
    return sum([waiting_at(world, name, right) for name in beyond])


def count_ahead(world, house, right, leading):
    """How many may go ahead of one that waits in the row of a house."""
    many = 0
    row = world.house(house).row(right)
    for kind, name in row[:row.index(leading)]:
        many += 1 if kind == "asker" else waiting_beyond(world, house, name, right)
    return many


def ahead(world, house, asker):
    """How many may be given the right ahead of an asker whose chain is whole; else None."""
    passed = chain(world, house, asker)
    right = awaited_right(world, house, asker)
    if not has_right(world, passed[-1], right):
        return None
    many = 0 if world.house(passed[-1]).inside(right) is None else 1
    leading = ("asker", asker)
    for name in passed:
        many += count_ahead(world, name, right, leading)
        leading = ("house", name)
    return many


def letters_sent(lines):
    """A dict of each (right, word) of which letters were sent to their number."""
    sent = {}
    for line in lines:
        if line[0] == "sends":
            letter = (line[3], line[4])
            sent[letter] = sent.get(letter, 0) + 1
    return sent
