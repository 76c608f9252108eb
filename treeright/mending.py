"""Mending: which tree, which houses and which rights there are behind falls and cuts."""

from treeright.errors import NoMend, NoRow
from treeright.houses import House
from treeright.trees import are_names, are_unlike


def next_on(tree, one, other):
    """The next house on the road from one to the other, or None where both are one."""
    road = tree.road(one, other)
    return road[1] if len(road) > 1 else None


def arrows_toward(tree, house, places):
    """The arrows of a house, for each right toward the house where it is."""
    return [next_on(tree, house, place) for place in places]


def new_house(tree, house, places):
    """A house of a tree at which nobody waits."""
    return House(house, tree.neighbours(house), arrows_toward(tree, house, places))


def check_mending(kept, out, fallen, houses):
    """Refuse lists that aren't of unlike houses that are down, none in both, or that leave no house."""
    if not are_names(kept) or not are_names(out):
        raise NoRow("a mending is told two lists of names")
    if not are_unlike(kept + out):
        raise NoMend("a house is told twice")
    if not all([house in fallen for house in kept + out]):
        raise NoMend("a house is told that isn't down")
    if len(out) == len(houses):
        raise NoMend("not all houses can be left out")


def leave_out(tree, out):
    """The tree without these houses."""
    for house in sorted(out):
        tree = tree.without(house)
    return tree


def place_of(right, homes):
    """The one of these houses in which a right is, or None."""
    for name in homes:
        if homes[name].arrow(right) is None:
            return name
    return None


def mended_homes(tree, stayed, places):
    """A dict of each house of the tree: those that stayed keep their askers, the others are new."""
    homes = {}
    for name in tree.houses():
        if name in stayed:
            homes[name] = stayed[name]
            homes[name].settle(tree.neighbours(name), arrows_toward(tree, name, places))
        else:
            homes[name] = new_house(tree, name, places)
    return homes
