"""A seat: what one house knows of one right, and what it does for those that wait for it."""

from treeright.errors import NoAsker, NoHouse, NoLetter, NoSeat
from treeright.trees import is_name


def check_asker(asker):
    """Refuse what can't be an asker's name."""
    if not is_name(asker):
        raise NoAsker("an asker is told by a name")


def check_house(house):
    """Refuse what can't be a house's name."""
    if not is_name(house):
        raise NoHouse("a house is told by a name")


class Seat:
    """One right at one house: its arrow, its row, who is inside, and whether it has asked."""

    def __init__(self, arrow):
        if arrow is not None and not is_name(arrow):
            raise NoSeat("an arrow is a name or None")
        self.pointer = arrow
        self.waiting = []
        self.holder = None
        self.asked = False

    def arrow(self):
        """The neighbour by which the right is to be had; None where it is here."""
        return self.pointer

    def row(self):
        """Those that wait, each ("asker", name) or ("house", name), the first one first."""
        return list(self.waiting)

    def inside(self):
        """The asker that has the right, or None."""
        return self.holder

    def has_asked(self):
        """Whether the seat has asked its arrow."""
        return self.asked

    def askers(self):
        """The askers that are here, as tuples (name, waits): waits is False for the one that is inside."""
        waiting = [(name, True) for kind, name in self.waiting if kind == "asker"]
        return waiting if self.holder is None else [(self.holder, False)] + waiting

    def crowd(self):
        """How many are in the row or inside."""
        return len(self.waiting) + (0 if self.holder is None else 1)

    def twin(self):
        """Another seat that stands as this one does."""
        other = Seat(self.pointer)
        other.waiting = list(self.waiting)
        other.holder = self.holder
        other.asked = self.asked
        return other

    def state(self):
        """The arrow, the row, who is inside and whether it has asked."""
        return (self.pointer, list(self.waiting), self.holder, self.asked)

    def settle(self, arrow):
        """Behind a mending nobody but askers waits, nothing is asked, and who is inside stays so."""
        self.pointer = arrow
        self.waiting = [one for one in self.waiting if one[0] == "asker"]
        self.asked = False

    def want(self, asker):
        """An asker waits, last in the row."""
        check_asker(asker)
        if asker == self.holder or ("asker", asker) in self.waiting:
            raise NoAsker("this asker waits or is inside already")
        self.waiting.append(("asker", asker))
        return self.move_on()

    def leave(self, asker):
        """An asker that waits is taken out of the row; what was asked stays asked."""
        check_asker(asker)
        if ("asker", asker) not in self.waiting:
            raise NoAsker("this asker doesn't wait")
        self.waiting.remove(("asker", asker))
        return self.move_on()

    def done(self, asker):
        """The asker that is inside goes out."""
        check_asker(asker)
        if asker != self.holder:
            raise NoAsker("this asker isn't inside")
        self.holder = None
        return self.move_on()

    def ask(self, house):
        """A house waits, last in the row."""
        check_house(house)
        if house == self.pointer:
            raise NoLetter("the house that the arrow tells can't ask")
        if ("house", house) in self.waiting:
            raise NoLetter("this house waits already")
        self.waiting.append(("house", house))
        return self.move_on()

    def come(self, house, back):
        """The right comes from a house, which with back waits for it, last in the row."""
        check_house(house)
        # While the right is here the arrow is None, so this refuses a second coming too.
        if house != self.pointer:
            raise NoLetter("the right can come only from where the arrow tells")
        if not isinstance(back, bool):
            raise NoLetter("back is a truth")
        self.pointer = None
        self.asked = False
        if back:
            self.waiting.append(("house", house))
        return self.move_on()

    def move_on(self):
        """Give the right to the first one of the row, or ask for it, where that is due."""
        if not self.waiting:
            return []
        if self.pointer is None:
            return [self.serve_first()] if self.holder is None else []
        if self.asked:
            return []
        self.asked = True
        return [("ask", self.pointer)]

    def serve_first(self):
        """The first one of the row leaves it and gets the right."""
        kind, name = self.waiting.pop(0)
        if kind == "asker":
            self.holder = name
            return ("given", name)
        back = len(self.waiting) > 0
        self.pointer = name
        self.asked = back
        return ("right", name, back)
