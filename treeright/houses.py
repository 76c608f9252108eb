"""A house: its neighbours, and a seat for each right."""

from treeright.errors import NoAsker, NoHouse, NoRight, NoSeat
from treeright.seats import Seat, check_asker
from treeright.trees import are_names, are_unlike, is_name, is_one_of, is_whole


def are_neighbours(thing, name):
    """Whether a thing is a list of unlike names, none of them this one."""
    return are_names(thing) and are_unlike(thing) and name not in thing


def are_arrows(thing, neighbours):
    """Whether a thing is a list of neighbours and Nones, one at least."""
    if not isinstance(thing, list) or len(thing) == 0:
        return False
    return all([arrow is None or is_one_of(arrow, neighbours) for arrow in thing])


def check_right(right, many):
    """Refuse what is no number of one of so many rights."""
    if not is_whole(right) or not 0 <= right < many:
        raise NoRight("this is no right's number")


def numbered(right, told):
    """What a seat told, with its right's number behind the first word."""
    return [(said[0], right) + said[1:] for said in told]


class House:
    """A house with its seats, one for each right, numbered from 0 on."""

    def __init__(self, name, neighbours, arrows):
        if not is_name(name):
            raise NoSeat("a house has a name")
        if not are_neighbours(neighbours, name):
            raise NoSeat("the neighbours are no list of unlike names of other houses")
        if not are_arrows(arrows, neighbours):
            raise NoSeat("the arrows are no list of neighbours or None, one for each right")
        self.name = name
        self.nearby = list(neighbours)
        self.seats = [Seat(arrow) for arrow in arrows]

    def want(self, asker, right):
        """An asker waits for a right, or for the one that suits best where it wants any (None)."""
        check_asker(asker)
        if right is not None:
            check_right(right, len(self.seats))
        if asker in self.rights_wanted():
            raise NoAsker("this asker waits or is inside already")
        number = self.best_right() if right is None else right
        return numbered(number, self.seats[number].want(asker))

    def leave(self, asker):
        """An asker that waits is taken out of its row."""
        right = self.right_of(asker)
        return numbered(right, self.seats[right].leave(asker))

    def done(self, asker):
        """An asker that is inside goes out."""
        right = self.right_of(asker)
        return numbered(right, self.seats[right].done(asker))

    def ask(self, house, right):
        """A neighbour waits for a right."""
        self.check_letter(house, right)
        return numbered(right, self.seats[right].ask(house))

    def come(self, house, right, back):
        """A right comes from a neighbour, which with back waits for it."""
        self.check_letter(house, right)
        return numbered(right, self.seats[right].come(house, back))

    def askers(self):
        """The askers that are here, sorted, as tuples (name, right, waits)."""
        return sorted([(name, right, waits) for right, seat in enumerate(self.seats) for name, waits in seat.askers()])

    def arrow(self, right):
        """The neighbour by which a right is to be had; None where it is here."""
        check_right(right, len(self.seats))
        return self.seats[right].arrow()

    def row(self, right):
        """Those that wait for a right, each ("asker", name) or ("house", name), the first one first."""
        check_right(right, len(self.seats))
        return self.seats[right].row()

    def inside(self, right):
        """The asker that has a right, or None."""
        check_right(right, len(self.seats))
        return self.seats[right].inside()

    def has_asked(self, right):
        """Whether the house has asked its arrow for a right."""
        check_right(right, len(self.seats))
        return self.seats[right].has_asked()

    def move_on(self, right):
        """Give a right to the first one of its row, or ask for it, where that is due."""
        return numbered(right, self.seats[right].move_on())

    def twin(self):
        """Another house that stands as this one does."""
        other = House(self.name, self.nearby, [seat.arrow() for seat in self.seats])
        other.seats = [seat.twin() for seat in self.seats]
        return other

    def state(self):
        """What stands at each seat."""
        return [seat.state() for seat in self.seats]

    def settle(self, neighbours, arrows):
        """Behind a mending: the neighbours and arrows are these, and of all that waits askers alone stay."""
        self.nearby = list(neighbours)
        for seat, arrow in zip(self.seats, arrows):
            seat.settle(arrow)

    def rights_wanted(self):
        """A dict of each asker that is here to the right at which it is."""
        return {name: right for name, right, waits in self.askers()}

    def right_of(self, asker):
        """The right at which an asker is."""
        check_asker(asker)
        wanted = self.rights_wanted()
        if asker not in wanted:
            raise NoAsker("this asker isn't here")
        return wanted[asker]

    def best_right(self):
        """The right for which fewest are here, of several one that is here itself, of several the least number."""
        return min([(seat.crowd(), seat.arrow() is not None, right) for right, seat in enumerate(self.seats)])[2]

    def check_letter(self, house, right):
        """Refuse a letter that isn't from a neighbour, or of no right."""
        if not is_one_of(house, self.nearby):
            raise NoHouse("this is no neighbour")
        check_right(right, len(self.seats))
