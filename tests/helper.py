"""What several test files need: things that are names and that are none, drawn runs, and a plain second world.

The second world is told anew from the points, without anything of the package but the refusals, the tree and what a
name is, so that the package's world can be held against it row by row.
"""

import random
import unittest

from treeright.errors import Down, NoAsker, NoHouse, NoLetter, NoMend, NoRight, NoRow, NoTie
from treeright.trees import Tree, is_name
from treeright.world import World

ASKERS = ["a", "b", "ann", "bob"]

NAMES = ["a", "z", "m", "ab", "zz", "house", "abcdefgh", "zzzzzzzz", "aaaaaaaa"]

NO_NAME_TEXTS = [
    "", " ", "abcdefghi", "a" * 9, "a" * 100, "A", "Z", "aB", "Ab", "HOUSE", "0", "7", "a1", "1a",
    "a b", " a", "a ", "a-b", "a_b", "_", "-", "~", "`", "{", "@", "[", "a.", "a,b", "a\n", "\na", "\n", "a\nb",
    "None", "True",
]


def other_kinds():
    """What is no text and not None, made anew at each call."""
    return [
        True, False, 0, 1, -1, 97, 10 ** 30, b"", b"a", b"ab", [], ["a"], [["a"]], [None],
        (), ("a",), ("a", "b"), (("a",),), {}, {"a": "b"}, {"a": True}, {"a"}, object(),
    ]


def no_names():
    """What is no name, of any kind but None."""
    return NO_NAME_TEXTS + other_kinds()


def no_names_nor_none():
    """What is no name, of any kind, None too."""
    return [None] + no_names()


def no_rights(many):
    """What is no number of so many rights, of any kind but None."""
    numbers = [many, many + 1, -1, -many, 10 ** 30, -10 ** 30]
    kinds = [thing for thing in other_kinds() if type(thing) is not int]
    return numbers + kinds + ["", "0", "1", "a", "any", "None"]


def insides(thing):
    """A thing's kind and all that it holds, so that True isn't 1, a list is no tuple, and two can be compared."""
    if isinstance(thing, (list, tuple)):
        return type(thing).__name__, [insides(part) for part in thing]
    if isinstance(thing, dict):
        return "dict", sorted([(insides(key), insides(part)) for key, part in thing.items()], key=repr)
    if isinstance(thing, set):
        return "set", sorted(repr(part) for part in thing)
    if hasattr(thing, "__dict__"):
        return type(thing).__name__, id(thing), insides(vars(thing))
    return type(thing).__name__, thing


class Case(unittest.TestCase):
    """Asks that compare kind by kind."""

    def same(self, told, due, why=None):
        self.assertEqual(told, due, why)
        self.assertEqual(insides(told), insides(due), why)

    def refuse(self, refusal, stood, deed, *things):
        """A deed is refused with just this class; neither what stood nor what is handed in is changed."""
        ahead, handed = insides(stood), insides(things)
        try:
            told = deed(*things)
        except ValueError as caught:
            self.assertIs(type(caught), refusal, things)
        else:
            self.fail(f"{things!r} isn't refused, but answered by {told!r}")
        self.assertEqual(insides(stood), ahead, things)
        self.assertEqual(insides(things), handed, things)

    def own(self, tell):
        """What is told is a new list or dict each time, down to the lists within its tuples."""
        due, first = insides(tell()), tell()
        spoil(first)
        self.assertEqual(insides(tell()), due)


def spoil(thing):
    """Change each list and dict in a thing, the thing itself too."""
    if isinstance(thing, (list, tuple)):
        for part in thing:
            spoil(part)
    if isinstance(thing, list):
        thing.reverse()
        thing.append("spoilt")
    if isinstance(thing, dict):
        thing.clear()
        thing["spoilt"] = "spoilt"


def run(world, *rows):
    """Put rows to a world; the world behind them."""
    for row in rows:
        world.put(row)
    return world


def ways(tree):
    """Each tie of a tree, each way."""
    return [way for one, other in tree.ties() for way in ((one, other), (other, one))]


def seat_told(house, right):
    return house.arrow(right), house.row(right), house.inside(right), house.has_asked(right)


def house_told(house, many):
    """All that can be asked of a house."""
    return house.askers(), [seat_told(house, right) for right in range(many)]


def world_told(world, many):
    """All that can be asked of a world."""
    tree = world.tree()
    return {
        "tree": (tree.houses(), tree.ties()),
        "down": [house for house in tree.houses() if world.is_down(house)],
        "houses": {
            house: house_told(world.house(house), many) for house in tree.houses() if not world.is_down(house)},
        "letters": {way: world.letters(*way) for way in ways(tree)},
        "book": world.book(),
    }


def is_right(thing, many):
    return type(thing) is int and 0 <= thing < many


class PlainHouse:
    """A house by points 7 to 13: each deed tells a list, or the class with which it is refused."""

    def __init__(self, neighbours, arrows):
        self.neighbours = neighbours
        self.seats = [{"arrow": arrow, "row": [], "inside": None, "asked": False} for arrow in arrows]

    def told(self):
        askers = [(seat["inside"], right, False) for right, seat in enumerate(self.seats) if seat["inside"] is not None]
        askers += [(name, right, True) for right, seat in enumerate(self.seats)
                   for kind, name in seat["row"] if kind == "asker"]
        seats = [(seat["arrow"], list(seat["row"]), seat["inside"], seat["asked"]) for seat in self.seats]
        return sorted(askers), seats

    def askers(self):
        return {name: (right, waits) for name, right, waits in self.told()[0]}

    def move(self, right):
        seat = self.seats[right]
        if not seat["row"]:
            return []
        if seat["arrow"] is not None:
            told = [] if seat["asked"] else [("ask", right, seat["arrow"])]
            seat["asked"] = True
            return told
        if seat["inside"] is not None:
            return []
        (kind, name), seat["row"] = seat["row"][0], seat["row"][1:]
        if kind == "asker":
            seat["inside"] = name
            return [("given", right, name)]
        seat["arrow"], seat["asked"] = name, seat["row"] != []
        return [("right", right, name, seat["asked"])]

    def want(self, asker, right):
        if not is_name(asker):
            return NoAsker
        if right is not None and not is_right(right, len(self.seats)):
            return NoRight
        if asker in self.askers():
            return NoAsker
        if right is None:
            crowds = [len(seat["row"]) + (seat["inside"] is not None) for seat in self.seats]
            least = [at for at, crowd in enumerate(crowds) if crowd == min(crowds)]
            right = ([at for at in least if self.seats[at]["arrow"] is None] + least)[0]
        self.seats[right]["row"].append(("asker", asker))
        return self.move(right)

    def leave(self, asker):
        if not is_name(asker) or asker not in self.askers():
            return NoAsker
        right, waits = self.askers()[asker]
        if not waits:
            return NoAsker
        self.seats[right]["row"].remove(("asker", asker))
        return self.move(right)

    def done(self, asker):
        if not is_name(asker) or asker not in self.askers():
            return NoAsker
        right, waits = self.askers()[asker]
        if waits:
            return NoAsker
        self.seats[right]["inside"] = None
        return self.move(right)

    def ask(self, house, right):
        if not is_name(house) or house not in self.neighbours:
            return NoHouse
        if not is_right(right, len(self.seats)):
            return NoRight
        seat = self.seats[right]
        if house == seat["arrow"] or ("house", house) in seat["row"]:
            return NoLetter
        seat["row"].append(("house", house))
        return self.move(right)

    def come(self, house, right, back):
        if not is_name(house) or house not in self.neighbours:
            return NoHouse
        if not is_right(right, len(self.seats)):
            return NoRight
        seat = self.seats[right]
        if seat["arrow"] != house or type(back) is not bool:
            return NoLetter
        seat["arrow"], seat["asked"] = None, False
        seat["row"] += [("house", house)] if back else []
        return self.move(right)


class PlainWorld:
    """A world by points 14 to 21: a row is answered by a list of lines, or the class with which it is refused."""

    def __init__(self, tree, places):
        self.tree, self.many, self.book = tree, len(places), []
        self.homes = {house: PlainHouse(*self.near_and_arrows(house, places)) for house in tree.houses()}
        self.post, self.down, self.cuts = {way: [] for way in ways(tree)}, set(), set()

    def near_and_arrows(self, house, places):
        return self.tree.neighbours(house), [(self.tree.road(house, place) + [None])[1] for place in places]

    def put(self, row):
        lengths = {"want": 4, "leave": 3, "done": 3, "come": 3, "fall": 2, "cut": 3, "mend": 3}
        if type(row) is not tuple or not row or type(row[0]) is not str or lengths.get(row[0]) != len(row):
            return NoRow
        lines = getattr(self, row[0])(*row[1:])
        if isinstance(lines, list):
            lines = [tuple(list(part) if type(part) is list else part for part in row)] + lines
            self.book += lines
        return lines

    def houses_refused(self, *houses):
        known = [is_name(house) and house in self.tree.houses() for house in houses]
        if not all(known):
            return NoHouse
        if len(houses) == 2 and houses not in self.post:
            return NoTie
        return Down if self.down & set(houses) or frozenset(houses) in self.cuts else None

    def lines_of(self, house, told):
        if not isinstance(told, list):
            return told
        lines = []
        for word, right, name, *back in told:
            if word == "given":
                lines.append(("given", house, name, right))
                continue
            word = "back" if back == [True] else word
            lines.append(("sends", house, name, right, word))
            if name in self.down or frozenset((house, name)) in self.cuts:
                lines.append(("lost", house, name, right, word))
            else:
                self.post[(house, name)].append((right, word))
        return lines

    def want(self, house, asker, right):
        return self.houses_refused(house) or self.lines_of(house, self.homes[house].want(asker, right))

    def leave(self, house, asker):
        return self.houses_refused(house) or self.lines_of(house, self.homes[house].leave(asker))

    def done(self, house, asker):
        return self.houses_refused(house) or self.lines_of(house, self.homes[house].done(asker))

    def come(self, one, other):
        if self.houses_refused(one, other):
            return self.houses_refused(one, other)
        if not self.post[(one, other)]:
            return NoLetter
        (right, word), self.post[(one, other)] = self.post[(one, other)][0], self.post[(one, other)][1:]
        home = self.homes[other]
        told = home.ask(one, right) if word == "ask" else home.come(one, right, word == "back")
        assert isinstance(told, list), "a letter that comes is never refused by its house"
        return self.lines_of(other, told)

    def lost(self, one, other):
        lesser, greater = sorted((one, other))
        lines = [("lost", *way, right, word)
                 for way in ((lesser, greater), (greater, lesser)) for right, word in self.post[way]]
        self.post[(one, other)], self.post[(other, one)] = [], []
        return lines

    def fall(self, house):
        if self.houses_refused(house):
            return self.houses_refused(house)
        self.down.add(house)
        return [line for other in self.tree.neighbours(house) for line in self.lost(house, other)]

    def cut(self, one, other):
        if self.houses_refused(one, other):
            return self.houses_refused(one, other)
        self.cuts.add(frozenset((one, other)))
        return self.lost(one, other)

    def mend(self, kept, out):
        for told in (kept, out):
            if type(told) is not list or not all(is_name(house) for house in told):
                return NoRow
        both = kept + out
        if len(set(both)) != len(both) or not set(both) <= self.down or set(out) == set(self.tree.houses()):
            return NoMend
        lines = [line for tie in self.tree.ties() for line in self.lost(*tie)]
        for house in sorted(out):
            self.tree = self.tree.without(house)
        fresh = self.down - set(kept)
        places = []
        for right in range(self.many):
            here = [house for house in self.tree.houses()
                    if house not in fresh and self.homes[house].seats[right]["arrow"] is None]
            if not here:
                here = self.tree.houses()[:1]
                lines.append(("anew", right, here[0]))
            places += here
        olds, self.homes = self.homes, {}
        for house in self.tree.houses():
            home = self.homes[house] = PlainHouse(*self.near_and_arrows(house, places))
            if house not in fresh:
                for seat, old in zip(home.seats, olds[house].seats):
                    seat["row"] = [one for one in old["row"] if one[0] == "asker"]
                    seat["inside"] = old["inside"]
        self.post, self.down, self.cuts = {way: [] for way in ways(self.tree)}, set(), set()
        for house in self.tree.houses():
            for right in range(self.many):
                lines += self.lines_of(house, self.homes[house].move(right))
        return lines

    def told(self):
        """What is to be told of the world, as world_told tells it."""
        return {
            "tree": (self.tree.houses(), self.tree.ties()),
            "down": sorted(self.down),
            "houses": {house: self.homes[house].told() for house in self.tree.houses() if house not in self.down},
            "letters": {way: list(self.post[way]) for way in ways(self.tree)},
            "book": list(self.book),
        }


def drawn_tree(drawing, many):
    """A tree of so many houses, in an order that tells nothing."""
    houses = drawing.sample(["a", "b", "c", "d", "e", "f", "g", "h", "aa", "ab", "ba", "zz"], many)
    ties = [drawing.choice([(house, other), (other, house)])
            for at, house in enumerate(houses) if at for other in [drawing.choice(houses[:at])]]
    return Tree(houses, drawing.sample(ties, len(ties)))


def drawn_start(seed, most_houses=12):
    """What draws, a tree, and places for one to four rights, the same for the same seed."""
    drawing = random.Random(seed)
    tree = drawn_tree(drawing, drawing.randint(1, most_houses))
    return drawing, tree, [drawing.choice(tree.houses()) for unused in range(drawing.randint(1, 4))]


def drawn_row(drawing, plain, askers):
    """A row that can be carried out now, of those that let nothing fall; None where the drawn kind has none."""
    up = [house for house in plain.tree.houses() if house not in plain.down]
    kind = drawing.choice(["want", "want", "leave", "done", "done", "come", "come", "come", "come"])
    if kind == "come":
        full = [way for way in ways(plain.tree) if plain.post[way] and not plain.houses_refused(*way)]
        return ("come", *drawing.choice(full)) if full else None
    if kind == "want":
        free = [(house, asker) for house in up for asker in askers if asker not in plain.homes[house].askers()]
        right = drawing.choice([None] + list(range(plain.many)))
        return ("want", *drawing.choice(free), right) if free else None
    here = [(house, asker) for house in up for asker, (right, waits) in plain.homes[house].askers().items()
            if waits == (kind == "leave")]
    return (kind, *drawing.choice(here)) if here else None


def drawn_fall(drawing, plain):
    """A row by which something falls or is mended, that can be carried out now."""
    kind = drawing.choice(["fall", "fall", "cut", "mend"])
    up = [house for house in plain.tree.houses() if house not in plain.down]
    ties = [way for way in ways(plain.tree) if not plain.houses_refused(*way)]
    if kind == "fall" and up:
        return ("fall", drawing.choice(up))
    if kind == "cut" and ties:
        return ("cut", *drawing.choice(ties))
    down = drawing.sample(sorted(plain.down), len(plain.down))
    kept, out = [], []
    for house in down:
        drawing.choice([kept, kept, out, []]).append(house)
    return ("mend", kept, out[1:] if len(out) == len(plain.tree.houses()) else out)


class Moments(Case):
    """Runs of the package's world and the plain one side by side."""

    def drawn(self, seed, steps, falls, most_houses=12):
        """A run: after each row its lines are compared, and the world, the plain one and the row are told."""
        drawing, tree, places = drawn_start(seed, most_houses)
        world, plain = World(tree, places), PlainWorld(tree, places)
        for unused in range(steps):
            row = drawn_row(drawing, plain, ASKERS)
            if falls and drawing.random() < falls:
                row = drawn_fall(drawing, plain)
            if row is not None:
                self.same(world.put(row), plain.put(row), row)
                yield world, plain, row
