import random
import unittest

from helper import (
    NAMES, Case, PlainHouse, house_told, no_names, no_names_nor_none, no_rights, other_kinds, seat_told,
)
from treeright.errors import NoAsker, NoHouse, NoLetter, NoRight, NoSeat
from treeright.houses import House

ELEVEN = ["b", "c", "d", "e", "f", "g", "h", "i", "j", "k", "l"]


def house_of(neighbours, arrows, *deeds):
    """The house a behind some deeds, each a tuple of its door and what is handed in there."""
    house = House("a", neighbours, arrows)
    for door, *things in deeds:
        getattr(house, door)(*things)
    return house


def no_lists():
    return [None, "", "b", "bc", ("b",), ("b", "c"), {"b": None}] + [
        thing for thing in other_kinds() if not isinstance(thing, list)]


class Made(Case):
    def test_each_arrow_with_none_one_and_eleven_neighbours(self):
        for neighbours in ([], ["b"], ELEVEN, ELEVEN[::-1]):
            for arrow in [None] + neighbours:
                for many in (1, 2, 3, 4):
                    for at in range(many):
                        arrows = [None] * many
                        arrows[at] = arrow
                        house = House("a", neighbours, arrows)
                        self.same(house.askers(), [])
                        for right in range(many):
                            self.same(seat_told(house, right), (arrows[right], [], None, False))

    def test_unlike_arrows_at_once(self):
        house = House("hub", ["z", "y", "x"], ["y", None, "z", "y"])
        self.same([house.arrow(right) for right in range(4)], ["y", None, "z", "y"])

    def test_each_name(self):
        for name in NAMES:
            self.same(House(name, ["q"], ["q"]).arrow(0), "q")
            self.same(House("q", [name], [name]).arrow(0), name)

    def test_a_name_that_is_none(self):
        for thing in no_names_nor_none():
            self.refuse(NoSeat, None, House, thing, [], [None])
            self.refuse(NoSeat, None, House, thing, ["b"], ["b"])

    def test_neighbours_that_are_no_list(self):
        for thing in no_lists():
            self.refuse(NoSeat, None, House, "a", thing, [None])
            self.refuse(NoSeat, None, House, "a", thing, ["b"])

    def test_a_neighbour_that_is_no_name_at_each_place(self):
        for thing in no_names_nor_none():
            for at in range(3):
                neighbours = ["b", "c"]
                neighbours.insert(at, thing)
                self.refuse(NoSeat, None, House, "a", neighbours, [None])
            self.refuse(NoSeat, None, House, "a", [thing], [None])
            self.refuse(NoSeat, None, House, "a", [thing], [thing])

    def test_its_own_name_among_the_neighbours(self):
        for neighbours in (["a"], ["a", "b"], ["b", "a"], ["b", "a", "c"], ELEVEN[1:] + ["a"]):
            self.refuse(NoSeat, None, House, "a", neighbours, [None])
            self.refuse(NoSeat, None, House, "a", neighbours, ["a"])

    def test_a_neighbour_told_twice(self):
        for neighbours in (["b", "b"], ["b", "c", "b"], ["c", "b", "b"], ELEVEN + ["b"], ELEVEN + ["l"]):
            self.refuse(NoSeat, None, House, "a", neighbours, [None])
            self.refuse(NoSeat, None, House, "a", neighbours, ["b"])

    def test_arrows_that_are_no_list(self):
        for thing in no_lists():
            self.refuse(NoSeat, None, House, "a", ["b", "c"], thing)
            self.refuse(NoSeat, None, House, "a", [], thing)

    def test_no_right_at_all(self):
        for neighbours in ([], ["b"], ELEVEN):
            self.refuse(NoSeat, None, House, "a", neighbours, [])

    def test_an_arrow_that_is_neither_a_neighbour_nor_none_at_each_place(self):
        for thing in ["a", "d", "z", "bb"] + no_names():
            for neighbours in ([], ["b"], ["b", "c"]):
                for many in (0, 1, 3):
                    for at in range(many + 1):
                        arrows = [None] * many
                        arrows.insert(at, thing)
                        self.refuse(NoSeat, None, House, "a", neighbours, arrows)
        self.refuse(NoSeat, None, House, "a", [], ["b"])
        self.refuse(NoSeat, None, House, "a", ["c"], [None, "c", "b"])

    def test_all_at_once(self):
        self.refuse(NoSeat, None, House, None, None, None)
        self.refuse(NoSeat, None, House, "A", ["A"], ["A"])


class Own(Case):
    def test_what_is_handed_in_is_not_changed(self):
        neighbours, arrows = ["c", "b"], ["b", None]
        house = House("a", neighbours, arrows)
        for deed in ((house.want, "x", 0), (house.want, "y", 1), (house.ask, "c", 0), (house.come, "b", 0, True)):
            deed[0](*deed[1:])
        self.same((neighbours, arrows), (["c", "b"], ["b", None]))

    def test_a_change_behind_the_handing_in_changes_nothing(self):
        neighbours, arrows = ["b", "c"], ["b", None]
        house = House("a", neighbours, arrows)
        neighbours.clear()
        neighbours.append("d")
        arrows[0] = None
        arrows.append("c")
        self.same(house.arrow(0), "b")
        self.refuse(NoRight, house, house.arrow, 2)
        self.refuse(NoHouse, house, house.ask, "d", 0)
        self.same(house.ask("c", 0), [("ask", 0, "b")])

    def test_what_is_told_is_the_askers_own(self):
        house = house_of(["b", "c"], ["b", None], ("want", "x", 0), ("ask", "c", 0), ("want", "y", 1), ("want", "z", 1))
        for tell in (house.askers, lambda: house.row(0), lambda: house.row(1)):
            self.own(tell)
        house.want("q", 0).append("spoilt")
        house.leave("q").append("spoilt")
        house.come("b", 0, True).clear()
        house.done("y").clear()
        house.ask("b", 1).append("spoilt")
        self.same(house_told(house, 2), (
            [("x", 0, False), ("z", 1, False)],
            [(None, [("house", "c"), ("house", "b")], "x", False), (None, [("house", "b")], "z", False)]))

    def test_what_was_told_stays_as_it_was(self):
        house = house_of(["b"], ["b"], ("want", "x", 0))
        askers, row = house.askers(), house.row(0)
        house.want("y", 0)
        self.same((askers, row), ([("x", 0, True)], [("asker", "x")]))

    def test_houses_are_apart(self):
        neighbours, arrows = ["b"], [None, None]
        one, other = House("a", neighbours, arrows), House("a", neighbours, arrows)
        one.want("x", 0)
        self.same(other.askers(), [])
        self.same(other.want("x", 1), [("given", 1, "x")])


class WantsATold(Case):
    def test_right_by_its_number(self):
        for many in (1, 2, 3, 4):
            for right in range(many):
                house = House("a", [], [None] * many)
                self.same(house.want("x", right), [("given", right, "x")])
                self.same(house.askers(), [("x", right, False)])
                house = House("a", ["b"], ["b"] * many)
                self.same(house.want("x", right), [("ask", right, "b")])
                self.same(house.askers(), [("x", right, True)])
                self.same([house.has_asked(at) for at in range(many)], [at == right for at in range(many)])

    def test_right_though_another_one_is_free(self):
        house = house_of(["b"], [None, None], ("want", "x", 0))
        self.same(house.want("y", 0), [])
        self.same(house.row(0), [("asker", "y")])
        self.same(house.inside(1), None)

    def test_right_that_is_asked_for_already(self):
        house = house_of(["b"], ["b"], ("want", "x", 0))
        self.same(house.want("y", 0), [])


class WantsAny(Case):
    def any(self, neighbours, arrows, deeds, due):
        house = house_of(neighbours, arrows, *deeds)
        house.want("q", None)
        self.same([right for name, right, waits in house.askers() if name == "q"], [due], (arrows, deeds))

    def test_told_as_a_told_one(self):
        self.same(House("a", [], [None]).want("x", None), [("given", 0, "x")])
        self.same(House("a", ["b"], ["b"]).want("x", None), [("ask", 0, "b")])
        self.same(house_of([], [None], ("want", "x", 0)).want("y", None), [])

    def test_the_one_for_which_fewest_wait(self):
        wants = [("want", "u", 0), ("want", "v", 0), ("want", "w", 1)]
        self.any(["b"], ["b", "b", "b"], wants, 2)
        self.any(["b"], ["b", "b"], wants, 1)
        self.any(["b"], ["b", "b", "b"], [("want", "u", 1), ("want", "v", 2)], 0)
        self.any(["b"], ["b", "b", "b", "b"], [("want", "u", 0), ("want", "v", 1), ("want", "w", 3)], 2)

    def test_who_is_inside_counts(self):
        self.any([], [None, None], [("want", "u", 0)], 1)
        self.any([], [None, None], [("want", "u", 1)], 0)
        self.any(["b"], [None, "b"], [("want", "u", 0)], 1)
        self.any(["b"], [None, "b"], [("want", "u", 0), ("want", "v", 1), ("want", "w", 1)], 0)

    def test_houses_that_wait_count(self):
        self.any(["b", "c"], ["b", "b"], [("ask", "c", 0)], 1)
        self.any(["b", "c"], ["b", "b", "b"], [("ask", "c", 0), ("want", "u", 1)], 2)
        self.any(["b", "c"], [None, "b"], [("want", "u", 0), ("ask", "c", 0), ("want", "v", 1)], 1)

    def test_who_waits_and_who_is_inside_count_alike(self):
        # One is inside and one waits for 0, two wait for 1: of these two 0 is here.
        self.any(["b"], [None, "b"], [("want", "u", 0), ("want", "v", 0), ("want", "w", 1), ("want", "x", 1)], 0)
        self.any(["b"], ["b", None], [("want", "u", 1), ("want", "v", 1), ("want", "w", 0), ("want", "x", 0)], 1)

    def test_of_several_one_that_is_here(self):
        self.any(["b"], ["b", None], [], 1)
        self.any(["b"], ["b", "b", None], [], 2)
        self.any(["b"], ["b", "b", "b", None], [("want", "u", 0)], 3)
        self.any(["b"], ["b", None], [("want", "u", 0), ("want", "v", 1)], 1)

    def test_fewest_ahead_of_being_here(self):
        self.any(["b"], ["b", None], [("want", "u", 1)], 0)
        self.any(["b"], [None, "b", "b"], [("want", "u", 0), ("want", "v", 1)], 2)

    def test_of_several_the_least_number(self):
        self.any([], [None, None, None], [], 0)
        self.any(["b"], ["b", "b", "b"], [], 0)
        self.any(["b"], ["b", None, None, "b"], [], 1)
        self.any(["b"], ["b", "b", "b"], [("want", "u", 0)], 1)
        self.any(["b"], ["b", None, "b", None], [("want", "u", 1)], 3)

    def test_one_that_was_asked_for_and_left_is_as_good_as_any(self):
        self.any(["b"], ["b", "b"], [("want", "u", 0), ("leave", "u")], 0)

    def test_a_right_that_was_handed_on_is_here_no_more(self):
        self.any(["b"], [None, None], [("ask", "b", 0)], 1)


class LeavesAndIsDone(Case):
    def test_leaves_by_its_name_alone(self):
        house = house_of(
            ["b"], ["b", "b", None], ("want", "x", 0), ("want", "y", 1), ("want", "v", 2), ("want", "w", 2))
        self.same(house.leave("y"), [])
        self.same(house.leave("w"), [])
        self.same(house.askers(), [("v", 2, False), ("x", 0, True)])
        self.same(seat_told(house, 1), ("b", [], None, True))
        self.same(house.leave("x"), [])
        self.same(house.askers(), [("v", 2, False)])

    def test_is_done_by_its_name_alone(self):
        house = house_of(["b"], [None, None], ("want", "x", 0), ("want", "y", 1), ("want", "z", 1), ("ask", "b", 0))
        self.same(house.done("y"), [("given", 1, "z")])
        self.same(house.done("x"), [("right", 0, "b", False)])
        self.same(house.done("z"), [])
        self.same(house_told(house, 2), ([], [("b", [], None, False), (None, [], None, False)]))

    def test_right_sent_with_back(self):
        house = house_of(["b"], [None, None], ("want", "x", 1), ("ask", "b", 1), ("want", "y", 1))
        self.same(house.done("x"), [("right", 1, "b", True)])
        self.same(seat_told(house, 1), ("b", [("asker", "y")], None, True))

    def test_an_asker_stands_at_one_seat_alone(self):
        for arrows in ([None, None, None], ["b", "b", "b"], ["b", None, "b"]):
            for first in (0, 1, 2):
                house = house_of(["b"], arrows, ("want", "x", first))
                for right in (0, 1, 2, None):
                    self.refuse(NoAsker, house, house.want, "x", right)
                self.same([name for name, right, waits in house.askers()], ["x"])

    def test_it_may_want_again_behind_that(self):
        house = house_of(["b"], [None, "b"], ("want", "x", 0), ("done", "x"))
        self.same(house.want("x", 1), [("ask", 1, "b")])
        self.same(house.leave("x"), [])
        self.same(house.want("x", 0), [("given", 0, "x")])

    def test_an_asker_called_like_a_house(self):
        house = house_of(["b", "c"], ["b"], ("ask", "c", 0))
        self.refuse(NoAsker, house, house.leave, "c")
        self.same(house.want("c", 0), [])
        self.same(house.want("a", 0), [])
        self.same(house.want("b", 0), [])
        self.same(house.row(0), [("house", "c"), ("asker", "c"), ("asker", "a"), ("asker", "b")])
        self.same(house.leave("c"), [])
        self.same(house.row(0), [("house", "c"), ("asker", "a"), ("asker", "b")])


class AskerRefused(Case):
    def houses(self):
        return [
            House("a", [], [None]),
            house_of(["b"], [None, "b"], ("want", "x", 0), ("want", "y", 0), ("want", "z", 1)),
            house_of(["b", "c"], ["b", None, "c", "c"], ("ask", "c", 0), ("want", "x", 3)),
        ]

    def test_what_is_no_name_ahead_of_all(self):
        for house in self.houses():
            for thing in no_names_nor_none():
                self.refuse(NoAsker, house, house.leave, thing)
                self.refuse(NoAsker, house, house.done, thing)
                for right in (0, None, 7, True, "a"):
                    self.refuse(NoAsker, house, house.want, thing, right)

    def test_no_right_ahead_of_an_asker_that_is_here(self):
        for house, many in zip(self.houses(), (1, 2, 4)):
            for right in no_rights(many):
                for asker in ("x", "y", "z", "new"):
                    self.refuse(NoRight, house, house.want, asker, right)

    def test_truths_are_no_rights(self):
        house = House("a", [], [None, None])
        self.refuse(NoRight, house, house.want, "x", True)
        self.refuse(NoRight, house, house.want, "x", False)

    def test_wants_though_it_is_at_some_seat(self):
        house = self.houses()[1]
        for asker in ("x", "y", "z"):
            for right in (0, 1, None):
                self.refuse(NoAsker, house, house.want, asker, right)

    def test_leaves_though_it_does_not_wait(self):
        house = self.houses()[1]
        for asker in ("x", "new", "b", "a"):
            self.refuse(NoAsker, house, house.leave, asker)

    def test_is_done_though_it_is_not_inside(self):
        house = self.houses()[1]
        for asker in ("y", "z", "new", "b", "a"):
            self.refuse(NoAsker, house, house.done, asker)


class Letters(Case):
    def test_a_neighbour_asks_at_each_right(self):
        for many in (1, 2, 3, 4):
            for right in range(many):
                house = House("a", ["b", "c"], ["b"] * many)
                self.same(house.ask("c", right), [("ask", right, "b")])
                self.same([house.row(at) for at in range(many)],
                          [[("house", "c")] if at == right else [] for at in range(many)])
                house = House("a", ["b", "c"], [None] * many)
                self.same(house.ask("c", right), [("right", right, "c", False)])
                self.same([house.arrow(at) for at in range(many)], ["c" if at == right else None for at in range(many)])

    def test_it_asks_while_one_is_inside(self):
        house = house_of(["b"], [None], ("want", "x", 0))
        self.same(house.ask("b", 0), [])
        self.same(house.row(0), [("house", "b")])

    def test_a_neighbour_asks_for_several_rights(self):
        house = house_of(["b", "c"], ["c", None, "c"], ("ask", "b", 0))
        self.same(house.ask("b", 1), [("right", 1, "b", False)])
        self.same(house.ask("b", 2), [("ask", 2, "c")])

    def test_each_right_comes(self):
        for many in (1, 2, 3, 4):
            for right in range(many):
                house = house_of(["b"], ["b"] * many, ("want", "x", right))
                self.same(house.come("b", right, False), [("given", right, "x")])
                self.same([house.arrow(at) for at in range(many)], [None if at == right else "b" for at in range(many)])
                house = house_of(["b", "c"], ["b"] * many, ("ask", "c", right))
                self.same(house.come("b", right, True), [("right", right, "c", True)])
                self.same(seat_told(house, right), ("c", [("house", "b")], None, True))

    def test_it_comes_and_nobody_waits(self):
        house = House("a", ["b"], ["b", "b"])
        self.same(house.come("b", 1, False), [])
        self.same(house.come("b", 0, True), [("right", 0, "b", False)])
        self.same([house.arrow(right) for right in (0, 1)], ["b", None])


class LetterRefused(Case):
    def houses(self):
        """Each beside how many rights it has; for each right b is the arrow, or waits, or it is here."""
        return [
            (House("a", ["b"], ["b"]), 1),
            (house_of(["b", "c"], [None, "b"], ("want", "x", 0), ("ask", "b", 0), ("ask", "c", 1)), 2),
            (House("a", [], [None, None, None]), 3),
        ]

    def test_what_is_no_neighbour_ahead_of_all(self):
        for house, many in self.houses():
            for thing in ["a", "d", "bb"] + no_names_nor_none():
                for right in (0, many - 1, many, -1, True, None, "a"):
                    self.refuse(NoHouse, house, house.ask, thing, right)
                    self.refuse(NoHouse, house, house.come, thing, right, False)
                    self.refuse(NoHouse, house, house.come, thing, right, None)

    def test_no_right_ahead_of_no_letter(self):
        for house, many in self.houses()[:2]:
            for right in no_rights(many) + [None]:
                self.refuse(NoRight, house, house.ask, "b", right)
                for back in (True, False, None, "back"):
                    self.refuse(NoRight, house, house.come, "b", right, back)

    def test_asks_though_it_waits_or_is_the_arrow(self):
        (first, unused), (second, unused), unused = self.houses()
        self.refuse(NoLetter, first, first.ask, "b", 0)
        self.refuse(NoLetter, second, second.ask, "b", 0)
        self.refuse(NoLetter, second, second.ask, "b", 1)
        self.refuse(NoLetter, second, second.ask, "c", 1)

    def test_comes_though_it_is_here_or_from_elsewhere(self):
        house = self.houses()[1][0]
        for back in (True, False, None):
            self.refuse(NoLetter, house, house.come, "b", 0, back)
            self.refuse(NoLetter, house, house.come, "c", 0, back)
            self.refuse(NoLetter, house, house.come, "c", 1, back)

    def test_comes_with_a_back_that_is_no_truth(self):
        for back in [None, "", "back", "True"] + [thing for thing in other_kinds() if type(thing) is not bool]:
            for house, many in self.houses()[:2]:
                self.refuse(NoLetter, house, house.come, "b", many - 1, back)


class Told(Case):
    def test_askers_sorted_of_several_rights(self):
        house = house_of(
            ["b"], ["b", None, None], ("want", "m", 2), ("want", "z", 0), ("want", "a", 1), ("want", "ab", 0),
            ("want", "b", 1), ("ask", "b", 1), ("want", "zz", 2))
        self.same(house.askers(), [
            ("a", 1, False), ("ab", 0, True), ("b", 1, True), ("m", 2, False), ("z", 0, True), ("zz", 2, True)])

    def test_each_part_of_each_right(self):
        house = house_of(
            ["b", "c"], ["b", None, "c", None], ("want", "x", 0), ("ask", "c", 0), ("want", "y", 1), ("ask", "b", 1),
            ("want", "v", 2), ("leave", "v"))
        due = [
            ("b", [("asker", "x"), ("house", "c")], None, True),
            (None, [("house", "b")], "y", False),
            ("c", [], None, True),
            (None, [], None, False),
        ]
        for right in range(4):
            self.same(house.arrow(right), due[right][0])
            self.same(house.row(right), due[right][1])
            self.same(house.inside(right), due[right][2])
            self.same(house.has_asked(right), due[right][3])

    def test_no_right(self):
        for many in (1, 2, 4):
            house = House("a", ["b"], ["b"] * many)
            for right in no_rights(many) + [None]:
                for tell in (house.arrow, house.row, house.inside, house.has_asked):
                    self.refuse(NoRight, house, tell, right)


class Fifty(Case):
    def test_askers_at_once_are_given_their_right_in_their_order(self):
        names = [first + second for first in "zyxwv" for second in "abcdefghij"]
        house = house_of(["b"], ["b", None])
        self.same([house.want(name, 0) for name in names], [[("ask", 0, "b")]] + [[]] * 49)
        self.same(house.askers(), sorted((name, 0, True) for name in names))
        self.same(house.come("b", 0, True), [("given", 0, names[0])])
        for name, after in zip(names, names[1:]):
            self.same(house.done(name), [("given", 0, after)])
        self.same(house.done(names[-1]), [("right", 0, "b", False)])


class LongDrawnRuns(Case):
    NEAR = ["b", "c", "d"]

    def drawn_deed(self, drawing, many):
        asker = drawing.choice(["a", "b", "x", "y", "z", "z", "", None, 1])
        house = drawing.choice(self.NEAR * 4 + ["a", "x", None, True])
        right = drawing.choice(list(range(many)) * 3 + [many, -1, True, "a"])
        return drawing.choice([
            ("want", asker, right), ("want", asker, None), ("leave", asker), ("done", asker), ("ask", house, right),
            ("come", house, right, drawing.choice([True, False])), ("come", house, right, None)])

    def test_all_deeds_as_the_points_tell_them(self):
        refused = done = 0
        for seed in range(60):
            drawing = random.Random(seed)
            arrows = [drawing.choice([None] + self.NEAR) for unused in range(drawing.randint(1, 4))]
            house, plain = House("a", self.NEAR, arrows), PlainHouse(self.NEAR, arrows)
            for unused in range(150):
                door, *things = self.drawn_deed(drawing, len(arrows))
                due = getattr(plain, door)(*things)
                if isinstance(due, list):
                    done += 1
                    self.same(getattr(house, door)(*things), due)
                else:
                    refused += 1
                    self.refuse(due, house, getattr(house, door), *things)
                self.same(house_told(house, len(arrows)), plain.told())
        self.assertGreater(min(refused, done), 1000)


if __name__ == "__main__":
    unittest.main()
