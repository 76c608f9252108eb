"""What stands in a world: where its rights are, and which way the arrows lead."""

from treeright.houses import check_right


def houses_up(world):
    """The houses that are up, sorted."""
    return [house for house in world.tree().houses() if not world.is_down(house)]


def where(world, right):
    """Where a right is: ("house", house, asker), ("way", one, other) or ("lost",)."""
    check_right(right, world.rights())
    for house in houses_up(world):
        home = world.house(house)
        if home.arrow(right) is None:
            return ("house", house, home.inside(right))
    for one, other in world.tree().ties():
        for way in [(one, other), (other, one)]:
            if is_carried(right, world.letters(way[0], way[1])):
                return ("way", way[0], way[1])
    return ("lost",)


def is_carried(right, letters):
    """Whether one of these letters brings a right."""
    return any([number == right and word != "ask" for number, word in letters])


def arrows(world, right):
    """A dict of each house that is up to its arrow, None where the right is there."""
    check_right(right, world.rights())
    return {house: world.house(house).arrow(right) for house in houses_up(world)}


def lead(world, house, right):
    """The houses by which the arrows lead from a house on, it itself first."""
    world.check_up(house)
    pointed = arrows(world, right)
    passed = [house]
    # A house that is down has no arrow here, so it ends the lead as one with the right does.
    while pointed.get(passed[-1]) is not None:
        here = passed[-1]
        passed.append(pointed[here])
        if pointed.get(passed[-1]) == here:
            return passed
    return passed
