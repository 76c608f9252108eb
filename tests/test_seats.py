import copy
import unittest

from helper import NAMES, no_names, no_names_nor_none, other_kinds
from treeright.errors import NoAsker, NoHouse, NoLetter, NoSeat
from treeright.seats import Seat

A, B, C = ("asker", "a"), ("asker", "b"), ("asker", "c")
X, Y, Z = ("house", "x"), ("house", "y"), ("house", "z")


def seat_of(arrow, *deeds):
    """A seat behind some deeds, each a tuple of its door and what is handed in there."""
    seat = Seat(arrow)
    for door, *things in deeds:
        getattr(seat, door)(*things)
    return seat


def standing(seat):
    return seat.arrow(), seat.row(), seat.inside(), seat.has_asked()


class SeatCase(unittest.TestCase):
    def stands(self, seat, arrow, row, inside, has_asked):
        self.assertEqual(standing(seat), (arrow, row, inside, has_asked))
        self.assertIs(type(seat.has_asked()), bool)
        self.assertIs(type(seat.row()), list)
        self.assertTrue(all(type(one) is tuple for one in seat.row()))

    def tells(self, told, *due):
        self.assertIs(type(told), list)
        self.assertEqual(told, list(due))
        for one in told:
            self.assertIs(type(one), tuple)
            if one[0] == "right":
                self.assertIs(type(one[2]), bool)

    def refuse(self, seat, refusal, door, *things):
        with self.subTest(standing=standing(seat), door=door, things=things):
            ahead = copy.deepcopy(standing(seat))
            with self.assertRaises(refusal) as caught:
                getattr(seat, door)(*things)
            self.assertIs(type(caught.exception), refusal)
            self.assertEqual(standing(seat), ahead)


class Made(SeatCase):
    def test_without_an_arrow(self):
        self.stands(Seat(None), None, [], None, False)

    def test_with_an_arrow(self):
        for name in NAMES:
            self.stands(Seat(name), name, [], None, False)

    def test_of_what_is_neither_a_name_nor_none(self):
        for thing in no_names():
            with self.subTest(thing=thing):
                with self.assertRaises(NoSeat) as caught:
                    Seat(thing)
                self.assertIs(type(caught.exception), NoSeat)

    def test_seats_are_apart(self):
        one, other = Seat(None), Seat(None)
        one.want("a")
        one.want("b")
        self.stands(one, None, [B], "a", False)
        self.stands(other, None, [], None, False)


class Wants(SeatCase):
    def test_the_right_is_here_and_free(self):
        seat = Seat(None)
        self.tells(seat.want("a"), ("given", "a"))
        self.stands(seat, None, [], "a", False)

    def test_the_right_is_here_and_one_is_inside(self):
        seat = seat_of(None, ("want", "a"))
        self.tells(seat.want("b"))
        self.stands(seat, None, [B], "a", False)
        self.tells(seat.want("c"))
        self.stands(seat, None, [B, C], "a", False)

    def test_the_right_is_away_and_not_asked_for(self):
        seat = Seat("x")
        self.tells(seat.want("a"), ("ask", "x"))
        self.stands(seat, "x", [A], None, True)

    def test_the_right_is_away_and_asked_for(self):
        seat = seat_of("x", ("want", "b"))
        self.tells(seat.want("a"))
        self.stands(seat, "x", [B, A], None, True)

    def test_the_right_is_away_and_asked_for_with_nobody_in_the_row(self):
        seat = seat_of("x", ("want", "b"), ("leave", "b"))
        self.tells(seat.want("a"))
        self.stands(seat, "x", [A], None, True)

    def test_again_behind_being_done(self):
        seat = seat_of(None, ("want", "a"), ("done", "a"))
        self.tells(seat.want("a"), ("given", "a"))

    def test_behind_the_right_was_handed_on_it_asks_there(self):
        seat = seat_of(None, ("ask", "y"))
        self.tells(seat.want("a"), ("ask", "y"))
        self.stands(seat, "y", [A], None, True)


class Leaves(SeatCase):
    def test_while_another_one_is_inside(self):
        seat = seat_of(None, ("want", "a"), ("want", "b"), ("want", "c"))
        self.tells(seat.leave("b"))
        self.stands(seat, None, [C], "a", False)
        self.tells(seat.leave("c"))
        self.stands(seat, None, [], "a", False)

    def test_from_first_middle_and_last(self):
        deeds = [("want", "a"), ("ask", "y"), ("want", "b"), ("want", "c")]
        for name, row in (("a", [Y, B, C]), ("b", [A, Y, C]), ("c", [A, Y, B])):
            seat = seat_of("x", *deeds)
            self.tells(seat.leave(name))
            self.stands(seat, "x", row, None, True)

    def test_what_was_asked_stays_asked(self):
        seat = seat_of("x", ("want", "a"))
        self.tells(seat.leave("a"))
        self.stands(seat, "x", [], None, True)
        self.tells(seat.come("x", False))
        self.stands(seat, None, [], None, False)

    def test_what_was_asked_by_back_stays_asked(self):
        seat = seat_of(None, ("want", "a"), ("ask", "y"), ("want", "b"), ("done", "a"))
        self.stands(seat, "y", [B], None, True)
        self.tells(seat.leave("b"))
        self.stands(seat, "y", [], None, True)
        self.tells(seat.ask("x"))
        self.stands(seat, "y", [X], None, True)

    def test_a_house_of_the_same_name_stays(self):
        seat = seat_of("x", ("ask", "a"), ("want", "a"))
        self.tells(seat.leave("a"))
        self.stands(seat, "x", [("house", "a")], None, True)


class IsDone(SeatCase):
    def test_nobody_waits(self):
        seat = seat_of(None, ("want", "a"))
        self.tells(seat.done("a"))
        self.stands(seat, None, [], None, False)

    def test_an_asker_is_first(self):
        seat = seat_of(None, ("want", "a"), ("want", "c"), ("want", "b"), ("ask", "x"))
        self.tells(seat.done("a"), ("given", "c"))
        self.stands(seat, None, [B, X], "c", False)

    def test_a_house_is_first_and_alone(self):
        seat = seat_of(None, ("want", "a"), ("ask", "y"))
        self.tells(seat.done("a"), ("right", "y", False))
        self.stands(seat, "y", [], None, False)

    def test_a_house_is_first_ahead_of_an_asker(self):
        seat = seat_of(None, ("want", "a"), ("ask", "y"), ("want", "b"))
        self.tells(seat.done("a"), ("right", "y", True))
        self.stands(seat, "y", [B], None, True)

    def test_a_house_is_first_ahead_of_a_house(self):
        seat = seat_of(None, ("want", "a"), ("ask", "y"), ("ask", "x"))
        self.tells(seat.done("a"), ("right", "y", True))
        self.stands(seat, "y", [X], None, True)


class HouseAsks(SeatCase):
    def test_the_right_is_here_and_free(self):
        seat = Seat(None)
        self.tells(seat.ask("y"), ("right", "y", False))
        self.stands(seat, "y", [], None, False)

    def test_the_right_is_here_and_one_is_inside(self):
        seat = seat_of(None, ("want", "a"))
        self.tells(seat.ask("y"))
        self.stands(seat, None, [Y], "a", False)
        self.tells(seat.ask("x"))
        self.stands(seat, None, [Y, X], "a", False)

    def test_the_right_is_away_and_not_asked_for(self):
        seat = Seat("x")
        self.tells(seat.ask("y"), ("ask", "x"))
        self.stands(seat, "x", [Y], None, True)

    def test_the_right_is_away_and_asked_for(self):
        seat = seat_of("x", ("want", "a"))
        self.tells(seat.ask("y"))
        self.stands(seat, "x", [A, Y], None, True)

    def test_the_right_is_away_and_asked_for_with_nobody_in_the_row(self):
        seat = seat_of("x", ("want", "a"), ("leave", "a"))
        self.tells(seat.ask("y"))
        self.stands(seat, "x", [Y], None, True)

    def test_one_that_was_the_arrow_may_ask_behind_it_turned(self):
        seat = seat_of("x", ("ask", "y"), ("come", "x", False))
        self.stands(seat, "y", [], None, False)
        self.tells(seat.ask("x"), ("ask", "y"))
        self.stands(seat, "y", [X], None, True)


class RightComes(SeatCase):
    def test_nobody_waits(self):
        seat = Seat("x")
        self.tells(seat.come("x", False))
        self.stands(seat, None, [], None, False)

    def test_nobody_waits_but_it_is_wanted_back(self):
        for deeds in ([], [("want", "a"), ("leave", "a")]):
            seat = seat_of("x", *deeds)
            self.tells(seat.come("x", True), ("right", "x", False))
            self.stands(seat, "x", [], None, False)

    def test_an_asker_is_first(self):
        seat = seat_of("x", ("want", "a"))
        self.tells(seat.come("x", False), ("given", "a"))
        self.stands(seat, None, [], "a", False)

    def test_an_asker_is_first_and_it_is_wanted_back(self):
        seat = seat_of("x", ("want", "a"), ("want", "b"))
        self.tells(seat.come("x", True), ("given", "a"))
        self.stands(seat, None, [B, X], "a", False)
        self.tells(seat.done("a"), ("given", "b"))
        self.tells(seat.done("b"), ("right", "x", False))
        self.stands(seat, "x", [], None, False)

    def test_a_house_is_first(self):
        seat = seat_of("x", ("ask", "y"))
        self.tells(seat.come("x", False), ("right", "y", False))
        self.stands(seat, "y", [], None, False)

    def test_a_house_is_first_and_others_wait(self):
        seat = seat_of("x", ("ask", "y"), ("want", "a"))
        self.tells(seat.come("x", False), ("right", "y", True))
        self.stands(seat, "y", [A], None, True)

    def test_a_house_is_first_and_it_is_wanted_back(self):
        seat = seat_of("x", ("ask", "y"))
        self.tells(seat.come("x", True), ("right", "y", True))
        self.stands(seat, "y", [X], None, True)
        self.tells(seat.come("y", True), ("right", "x", True))
        self.stands(seat, "x", [Y], None, True)

    def test_with_back_it_waits_last(self):
        seat = seat_of("x", ("ask", "y"), ("want", "a"), ("ask", "z"))
        self.tells(seat.come("x", True), ("right", "y", True))
        self.stands(seat, "y", [A, Z, X], None, True)


class OneName(SeatCase):
    def test_an_asker_and_a_house_in_one_row(self):
        seat = seat_of("x", ("want", "y"))
        self.tells(seat.ask("y"))
        self.stands(seat, "x", [("asker", "y"), Y], None, True)
        self.tells(seat.come("x", False), ("given", "y"))
        self.stands(seat, None, [Y], "y", False)
        self.tells(seat.done("y"), ("right", "y", False))
        self.stands(seat, "y", [], None, False)

    def test_a_house_and_an_asker_in_one_row(self):
        seat = seat_of("x", ("ask", "y"), ("want", "y"))
        self.stands(seat, "x", [Y, ("asker", "y")], None, True)
        self.tells(seat.come("x", False), ("right", "y", True))
        self.stands(seat, "y", [("asker", "y")], None, True)
        self.refuse(seat, NoLetter, "ask", "y")
        self.refuse(seat, NoAsker, "want", "y")

    def test_an_asker_called_like_the_arrow(self):
        seat = Seat("x")
        self.tells(seat.want("x"), ("ask", "x"))
        self.tells(seat.come("x", True), ("given", "x"))
        self.stands(seat, None, [X], "x", False)


class Refused(SeatCase):
    # Each standing that the points tell apart: here or away, inside or not, asked or not, somebody waiting or not.
    STANDINGS = [
        (None,),
        (None, ("want", "a")),
        (None, ("want", "a"), ("want", "b"), ("ask", "y")),
        ("x",),
        ("x", ("want", "a"), ("leave", "a")),
        ("x", ("want", "b"), ("ask", "y")),
    ]

    def test_what_is_no_name_ahead_of_all(self):
        for deeds in self.STANDINGS:
            seat = seat_of(*deeds)
            for thing in no_names_nor_none():
                for door in ("want", "leave", "done"):
                    self.refuse(seat, NoAsker, door, thing)
                self.refuse(seat, NoHouse, "ask", thing)
                self.refuse(seat, NoHouse, "come", thing, True)
                self.refuse(seat, NoHouse, "come", thing, False)

    def test_what_is_no_name_beside_a_back_that_is_no_truth(self):
        for deeds in self.STANDINGS:
            seat = seat_of(*deeds)
            for thing in no_names_nor_none():
                for back in (None, 0, 1, "back", "", [], ()):
                    self.refuse(seat, NoHouse, "come", thing, back)

    def test_wants_though_it_waits_or_is_inside(self):
        self.refuse(seat_of(None, ("want", "a")), NoAsker, "want", "a")
        self.refuse(seat_of(None, ("want", "a"), ("want", "b")), NoAsker, "want", "a")
        self.refuse(seat_of(None, ("want", "a"), ("want", "b")), NoAsker, "want", "b")
        self.refuse(seat_of(None, ("want", "a"), ("want", "b"), ("want", "c")), NoAsker, "want", "c")
        self.refuse(seat_of("x", ("want", "a")), NoAsker, "want", "a")

    def test_leaves_though_it_does_not_wait(self):
        for deeds in self.STANDINGS:
            self.refuse(seat_of(*deeds), NoAsker, "leave", "c")
        self.refuse(seat_of(None, ("want", "a")), NoAsker, "leave", "a")
        self.refuse(seat_of(None, ("want", "a"), ("want", "b")), NoAsker, "leave", "a")
        self.refuse(seat_of("x", ("want", "a"), ("leave", "a")), NoAsker, "leave", "a")
        self.refuse(seat_of("x", ("ask", "y")), NoAsker, "leave", "y")
        self.refuse(seat_of("x", ("ask", "y")), NoAsker, "leave", "x")

    def test_is_done_though_it_is_not_inside(self):
        for deeds in self.STANDINGS:
            self.refuse(seat_of(*deeds), NoAsker, "done", "c")
            self.refuse(seat_of(*deeds), NoAsker, "done", "b")
        self.refuse(seat_of("x", ("want", "a")), NoAsker, "done", "a")
        self.refuse(seat_of(None, ("want", "a"), ("done", "a")), NoAsker, "done", "a")

    def test_asks_though_it_waits(self):
        self.refuse(seat_of("x", ("ask", "y")), NoLetter, "ask", "y")
        self.refuse(seat_of(None, ("want", "a"), ("ask", "y")), NoLetter, "ask", "y")
        self.refuse(seat_of("x", ("want", "a"), ("come", "x", True)), NoLetter, "ask", "x")
        self.refuse(seat_of("x", ("ask", "y"), ("come", "x", True)), NoLetter, "ask", "x")

    def test_asks_though_it_is_the_arrow(self):
        self.refuse(Seat("x"), NoLetter, "ask", "x")
        self.refuse(seat_of("x", ("want", "a")), NoLetter, "ask", "x")
        self.refuse(seat_of("x", ("want", "a"), ("leave", "a")), NoLetter, "ask", "x")
        self.refuse(seat_of(None, ("ask", "y")), NoLetter, "ask", "y")

    def test_comes_though_it_is_here(self):
        for deeds in self.STANDINGS[:3]:
            for house in ("a", "x", "y"):
                for back in (True, False, None):
                    self.refuse(seat_of(*deeds), NoLetter, "come", house, back)
        self.refuse(seat_of("x", ("come", "x", False)), NoLetter, "come", "x", False)

    def test_comes_from_a_house_that_is_not_the_arrow(self):
        for deeds in self.STANDINGS[3:]:
            for house in ("a", "y", "z", "xx"):
                for back in (True, False, None):
                    self.refuse(seat_of(*deeds), NoLetter, "come", house, back)
        self.refuse(seat_of("x", ("ask", "y"), ("come", "x", True)), NoLetter, "come", "x", False)

    def test_comes_with_a_back_that_is_no_truth(self):
        backs = [None, "", "True", "back"] + [thing for thing in other_kinds() if type(thing) is not bool]
        for deeds in self.STANDINGS[3:]:
            for back in backs:
                self.refuse(seat_of(*deeds), NoLetter, "come", "x", back)


class Own(SeatCase):
    def test_the_row_is_the_askers_own(self):
        seat = seat_of("x", ("want", "a"), ("ask", "y"))
        row = seat.row()
        row.clear()
        self.assertEqual(seat.row(), [A, Y])
        self.assertIsNot(seat.row(), seat.row())
        row = seat.row()
        seat.want("b")
        self.assertEqual(row, [A, Y])

    def test_what_is_told_is_a_new_list(self):
        seat = Seat("x")
        first = seat.want("a")
        first.append("more")
        second = seat.want("b")
        second.append("more")
        self.tells(seat.want("c"))
        self.tells(seat.come("x", True), ("given", "a"))
        self.stands(seat, None, [B, C, X], "a", False)
        told = seat.done("a")
        told.clear()
        self.stands(seat, None, [C, X], "b", False)


def due_deed(stood, door, name, back):
    """The standing behind a deed, told anew from the points, ahead of moving on; or the class of the refusal."""
    arrow, row, inside, asked = stood
    asker, house = ("asker", name), ("house", name)
    if door == "want":
        return NoAsker if inside == name or asker in row else (arrow, row + (asker,), inside, asked)
    if door == "leave":
        return (arrow, tuple(one for one in row if one != asker), inside, asked) if asker in row else NoAsker
    if door == "done":
        return (arrow, row, None, asked) if inside == name else NoAsker
    if door == "ask":
        return NoLetter if arrow == name or house in row else (arrow, row + (house,), inside, asked)
    return (None, row + ((house,) if back else ()), inside, False) if arrow == name else NoLetter


def due_move(stood):
    """What a seat tells as it moves on, and how it stands behind that."""
    arrow, row, inside, asked = stood
    if row and arrow is None and inside is None:
        (kind, name), rest = row[0], row[1:]
        if kind == "asker":
            return [("given", name)], (None, rest, name, asked)
        return [("right", name, rest != ())], (name, rest, None, rest != ())
    if row and arrow is not None and not asked:
        return [("ask", arrow)], (arrow, row, inside, True)
    return [], stood


class EachStanding(SeatCase):
    DEEDS = (
        [(door, name) for door in ("want", "leave", "done") for name in ("a", "b")]
        + [("ask", name) for name in ("a", "x", "y")]
        + [("come", name, back) for name in ("a", "x", "y") for back in (True, False)]
    )

    def test_each_deed_in_each_standing_that_can_be_come_to(self):
        fresh = [Seat(None), Seat("x")]
        seen = {self.stood(seat) for seat in fresh}
        while fresh:
            seat = fresh.pop()
            for deed in self.DEEDS:
                behind = self.try_deed(seat, *deed)
                if self.stood(behind) not in seen:
                    seen.add(self.stood(behind))
                    fresh.append(behind)
        # A row of four others stands in 65 orders. Away: three arrows, asked with each of these or not with none;
        # here: two askers inside with each of these, or nobody with none.
        self.assertEqual(len(seen), 3 * (65 + 1) + 2 * 65 + 1)

    def stood(self, seat):
        arrow, row, inside, asked = standing(seat)
        return arrow, tuple(row), inside, asked

    def try_deed(self, seat, door, name, *back):
        ahead = self.stood(seat)
        behind = copy.deepcopy(seat)
        due = due_deed(ahead, door, name, back == (True,))
        if isinstance(due, tuple):
            told, due = due_move(due)
            self.tells(getattr(behind, door)(name, *back), *told)
            self.assertEqual(self.stood(behind), due)
        else:
            self.refuse(behind, due, door, name, *back)
        return behind


if __name__ == "__main__":
    unittest.main()
