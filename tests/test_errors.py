import unittest

from treeright import errors
from treeright.errors import (
    Down, NoAsker, NoHouse, NoLetter, NoLine, NoMend, NoRight, NoRow, NoSeat, NoText, NoTie, NoTree, TreeError,
)

PLAIN = [NoTree, NoHouse, NoSeat, NoAsker, NoLetter, NoRight, NoRow, NoTie, Down, NoMend, NoLine]
ALL = PLAIN + [NoText]


class Errors(unittest.TestCase):
    def test_the_base_stands_straight_under_value_error(self):
        self.assertEqual(TreeError.__bases__, (ValueError,))
        with self.assertRaises(ValueError):
            raise TreeError("any refusal")

    def test_each_of_the_twelve_stands_straight_under_the_base(self):
        self.assertEqual(len(ALL), 12)
        for refusal in ALL:
            with self.subTest(refusal=refusal):
                self.assertEqual(refusal.__bases__, (TreeError,))

    def test_none_stands_under_another_one(self):
        for one in ALL:
            for other in ALL:
                self.assertEqual(issubclass(one, other), one is other)

    def test_names(self):
        told = ["NoTree", "NoHouse", "NoSeat", "NoAsker", "NoLetter", "NoRight", "NoRow", "NoTie", "Down", "NoMend",
                "NoLine", "NoText"]
        self.assertEqual([refusal.__name__ for refusal in ALL], told)
        for name in told + ["TreeError"]:
            self.assertEqual(getattr(errors, name).__name__, name)

    def test_those_without_a_field_are_made_of_a_text(self):
        for refusal in PLAIN + [TreeError]:
            with self.subTest(refusal=refusal):
                self.assertEqual(str(refusal("why it is refused")), "why it is refused")

    def test_no_text_bears_its_line(self):
        for line in (0, 1, 17):
            with self.assertRaises(TreeError) as caught:
                raise NoText(line)
            self.assertIs(type(caught.exception), NoText)
            self.assertEqual(caught.exception.line, line)


if __name__ == "__main__":
    unittest.main()
