"""Trees: houses that are tied so that just one road leads from each of them to each other one."""

from treeright.errors import NoHouse, NoTree

LETTERS = "abcdefghijklmnopqrstuvwxyz"
LONGEST_NAME = 8


def is_name(thing):
    """Whether a thing is a text of one to eight small letters."""
    if not isinstance(thing, str):
        return False
    return 1 <= len(thing) <= LONGEST_NAME and all([letter in LETTERS for letter in thing])


def is_whole(thing):
    """Whether a thing is a whole number, and so no truth."""
    return isinstance(thing, int) and not isinstance(thing, bool)


def is_one_of(thing, houses):
    """Whether a thing is the name of one of these houses."""
    return is_name(thing) and thing in houses


def are_names(thing):
    """Whether a thing is a list of names, perhaps empty."""
    return isinstance(thing, list) and all([is_name(name) for name in thing])


def are_unlike(names):
    """Whether none of these names stands twice."""
    return len(set(names)) == len(names)


def are_houses(thing):
    """Whether a thing is a list of unlike names, one at least."""
    return are_names(thing) and are_unlike(thing) and len(thing) >= 1


def is_tie(thing, houses):
    """Whether a thing is a tuple of the names of two unlike houses."""
    if not isinstance(thing, tuple) or len(thing) != 2:
        return False
    one, other = thing
    return is_one_of(one, houses) and is_one_of(other, houses) and one != other


def are_ties(thing, houses):
    """Whether a thing is a list of ties of these houses, one fewer than they are."""
    if not isinstance(thing, list) or len(thing) != len(houses) - 1:
        return False
    return all([is_tie(tie, houses) for tie in thing])


def tied_to_each(houses, ties):
    """A dict of each house to those that it is tied to, sorted."""
    near = {house: [] for house in houses}
    for one, other in ties:
        near[one].append(other)
        near[other].append(one)
    return {house: sorted(near[house]) for house in houses}


def steps_toward(near, goal):
    """A dict of each house that has a road to the goal to the next one on it; None for the goal."""
    steps = {goal: None}
    fresh = [goal]
    while fresh:
        here = fresh.pop()
        for other in near[here]:
            if other not in steps:
                steps[other] = here
                fresh.append(other)
    return steps


class Tree:
    """Houses and their ties."""

    def __init__(self, houses, ties):
        if not are_houses(houses):
            raise NoTree("the houses are no list of unlike names")
        if not are_ties(ties, houses):
            raise NoTree("the ties are no list of pairs of the houses, one fewer than these")
        self.names = sorted(houses)
        self.pairs = sorted([(min(tie), max(tie)) for tie in ties])
        self.near = tied_to_each(self.names, self.pairs)
        # With one tie fewer than houses a ring, or a tie told twice, always leaves a house that can't be reached.
        if len(steps_toward(self.near, self.names[0])) != len(self.names):
            raise NoTree("the ties don't lead from each house to each other one")

    def houses(self):
        """The names of the houses, sorted."""
        return list(self.names)

    def ties(self):
        """The ties, sorted, each with the lesser name first."""
        return list(self.pairs)

    def neighbours(self, house):
        """The names of the houses that a house is tied to, sorted."""
        self.check_house(house)
        return list(self.near[house])

    def road(self, one, other):
        """The houses by which one goes from the one to the other, both of them too."""
        self.check_house(one)
        self.check_house(other)
        steps = steps_toward(self.near, other)
        passed = [one]
        while passed[-1] != other:
            passed.append(steps[passed[-1]])
        return passed

    def without(self, house):
        """A new tree in which the first neighbour of a house that is left out is tied to its others."""
        self.check_house(house)
        if len(self.names) == 1:
            raise NoTree("the only house can't be left out")
        heir, *others = self.near[house]
        kept = [tie for tie in self.pairs if house not in tie]
        return Tree([name for name in self.names if name != house], kept + [(heir, name) for name in others])

    def check_house(self, house):
        """Refuse what is no house of this tree."""
        if not is_one_of(house, self.names):
            raise NoHouse("this is no house of the tree")
