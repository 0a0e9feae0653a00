import unittest

from pieceways.errors import NoKey, NoLetter, NoPiece, NoRoad, NoRoom, NoRow, NoRule, NoText, NoTime, NoWidth
from pieceways.errors import TooWide, WayError

REFUSALS = [NoLetter, NoPiece, NoWidth, TooWide, NoRule, NoTime, NoKey, NoText, NoRow, NoRoom, NoRoad]


class Refusals(unittest.TestCase):
    def test_the_base_stands_under_value_error(self):
        self.assertTrue(issubclass(WayError, ValueError))
        self.assertIsNot(WayError, ValueError)

    def test_there_are_eleven_by_their_names(self):
        names = "NoLetter NoPiece NoWidth TooWide NoRule NoTime NoKey NoText NoRow NoRoom NoRoad"
        self.assertEqual([refusal.__name__ for refusal in REFUSALS], names.split(" "))

    def test_each_stands_under_the_base(self):
        for refusal in REFUSALS:
            with self.subTest(refusal=refusal):
                self.assertTrue(issubclass(refusal, WayError))
                self.assertFalse(issubclass(WayError, refusal))

    def test_none_stands_under_another_one(self):
        for one in REFUSALS:
            for other in REFUSALS:
                with self.subTest(one=one, other=other):
                    self.assertEqual(issubclass(one, other), one.__name__ == other.__name__)

    def test_each_is_raised_and_taken_by_the_base(self):
        for refusal in REFUSALS:
            with self.subTest(refusal=refusal):
                with self.assertRaises(WayError) as caught:
                    raise refusal("words")
                self.assertIs(type(caught.exception), refusal)


if __name__ == "__main__":
    unittest.main()
