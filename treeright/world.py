"""The world: a tree of houses, the letters on their way between them, and the book of all that came about."""

from treeright.errors import Down, NoLetter, NoRight, NoTie, NoTree
from treeright.mending import check_mending, leave_out, mended_homes, new_house, place_of
from treeright.rows import check_row, copy_line
from treeright.trees import Tree


def check_places(tree, places):
    """Refuse what is no tree, or no list of a house of it for each right, one at least."""
    if not isinstance(tree, Tree):
        raise NoTree("a world is made of a tree")
    if not isinstance(places, list) or len(places) == 0:
        raise NoRight("the places are no list of houses, one for each right")
    for place in places:
        tree.check_house(place)


def tie_of(one, other):
    """The tie of two houses, the lesser name first."""
    return (min(one, other), max(one, other))


def no_letters(tree):
    """A dict of each tie of the tree, each way, to an empty queue."""
    return {(one, other): [] for one in tree.houses() for other in tree.neighbours(one)}


def word_of(said):
    """The word of the letter by which a house sends what it said: an ask, or a right with back or without."""
    if said[0] == "right" and said[3]:
        return "back"
    return said[0]


class World:
    """A tree whose houses have seats for the rights, with what is on its way and what is down."""

    def __init__(self, tree, places):
        check_places(tree, places)
        self.shape = tree
        self.many = len(places)
        self.homes = {name: new_house(tree, name, places) for name in tree.houses()}
        self.queues = no_letters(tree)
        self.fallen = []
        self.severed = []
        self.lines = []

    def put(self, row):
        """Carry out a row; tell the lines that come of it, the row itself first."""
        check_row(row)
        lines = [copy_line(row)] + self.carry_out(row)
        self.lines.extend([copy_line(line) for line in lines])
        return lines

    def tree(self):
        """The tree as it is now."""
        return self.shape

    def letters(self, one, other):
        """The letters on their way from one house to another, as tuples (right, word), the first one first."""
        self.check_tied(one, other)
        return list(self.queues[(one, other)])

    def book(self):
        """All lines that were told."""
        return [copy_line(line) for line in self.lines]

    def is_down(self, house):
        """Whether a house is down."""
        self.shape.check_house(house)
        return house in self.fallen

    def house(self, name):
        """A house as it stands now: what is done to it changes nothing here."""
        self.check_up(name)
        return self.homes[name].twin()

    def rights(self):
        """How many rights there are."""
        return self.many

    def state(self):
        """All that stands: the tree, what is down, the letters, and each house, one that is down as it fell."""
        letters = {way: list(self.queues[way]) for way in self.queues}
        homes = {name: self.homes[name].state() for name in self.homes}
        return (self.shape.houses(), self.shape.ties(), sorted(self.fallen), sorted(self.severed), letters, homes)

    def check_up(self, house):
        """Refuse what is no house of the tree, or is down."""
        if self.is_down(house):
            raise Down("this house is down")

    def check_tied(self, one, other):
        """Refuse what are no houses of the tree, or aren't tied."""
        self.shape.check_house(one)
        self.shape.check_house(other)
        if (one, other) not in self.queues:
            raise NoTie("these houses aren't tied")

    def check_tie_up(self, one, other):
        """Refuse what are no houses that are tied, and where one of them or their tie is down."""
        self.check_tied(one, other)
        self.check_up(one)
        self.check_up(other)
        if tie_of(one, other) in self.severed:
            raise Down("this tie is down")

    def carry_out(self, row):
        """Do what a row tells; the lines that come of it."""
        word = row[0]
        if word == "mend":
            return self.mend(row[1], row[2])
        if word == "come":
            return self.bring_in(row[1], row[2])
        if word == "cut":
            return self.cut(row[1], row[2])
        if word == "fall":
            return self.fall(row[1])
        self.check_up(row[1])
        return self.lines_of(row[1], self.tell_house(row))

    def tell_house(self, row):
        """Hand what an asker does on to its house; what the house tells."""
        home = self.homes[row[1]]
        if row[0] == "want":
            return home.want(row[2], row[3])
        if row[0] == "leave":
            return home.leave(row[2])
        return home.done(row[2])

    def bring_in(self, one, other):
        """The first letter on its way from one house to another comes in there."""
        self.check_tie_up(one, other)
        queue = self.queues[(one, other)]
        if not queue:
            raise NoLetter("no letter is on its way there")
        right, word = queue.pop(0)
        home = self.homes[other]
        if word == "ask":
            return self.lines_of(other, home.ask(one, right))
        return self.lines_of(other, home.come(one, right, word == "back"))

    def fall(self, house):
        """A house is down from now on, and the letters on its ties are lost."""
        self.check_up(house)
        self.fallen.append(house)
        return self.lose([tie_of(house, other) for other in self.shape.neighbours(house)])

    def cut(self, one, other):
        """A tie is down from now on, and the letters on it are lost."""
        self.check_tie_up(one, other)
        self.severed.append(tie_of(one, other))
        return self.lose([tie_of(one, other)])

    def mend(self, kept, out):
        """All that isn't left out is up again; rights that are in no house are made anew."""
        check_mending(kept, out, self.fallen, self.shape.houses())
        lines = self.lose(self.shape.ties())
        emptied = [house for house in self.fallen if house not in kept]
        self.shape = leave_out(self.shape, out)
        first = self.shape.houses()[0]
        stayed = {house: self.homes[house] for house in self.shape.houses() if house not in emptied}
        found = [place_of(right, stayed) for right in range(self.many)]
        self.homes = mended_homes(self.shape, stayed, [first if place is None else place for place in found])
        self.queues = no_letters(self.shape)
        self.fallen = []
        self.severed = []
        lines.extend([("anew", right, first) for right, place in enumerate(found) if place is None])
        return lines + self.move_all_on()

    def move_all_on(self):
        """Each house moves on once with each right; the lines that come of it."""
        lines = []
        for house in self.shape.houses():
            for right in range(self.many):
                lines.extend(self.lines_of(house, self.homes[house].move_on(right)))
        return lines

    def lose(self, ties):
        """All letters on these ties are lost, of each tie first those from the lesser name to the greater one."""
        lines = []
        for one, other in ties:
            for way in [(one, other), (other, one)]:
                lines.extend([("lost", way[0], way[1], right, word) for right, word in self.queues[way]])
                self.queues[way] = []
        return lines

    def lines_of(self, house, told):
        """The lines of what a house told; its letters are sent."""
        lines = []
        for said in told:
            if said[0] == "given":
                lines.append(("given", house, said[2], said[1]))
            else:
                lines.extend(self.send_letter(house, said[2], said[1], word_of(said)))
        return lines

    def send_letter(self, one, other, right, word):
        """A letter goes on its way, the last one there, or is lost at once where the way is down."""
        sent = ("sends", one, other, right, word)
        if other in self.fallen or tie_of(one, other) in self.severed:
            return [sent, ("lost", one, other, right, word)]
        self.queues[(one, other)].append((right, word))
        return [sent]
