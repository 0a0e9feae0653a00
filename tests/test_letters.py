import copy
import unittest

import spoilt
from pieceways.errors import NoLetter, WayError
from pieceways.letters import Letter

PARTS = [7, "ann", "bob", [10, 0, 255], True]
SPOILT = {
    0: spoilt.NUMBERS,
    1: spoilt.NAMES,
    2: spoilt.NAMES,
    3: spoilt.bodies(PARTS[3]),
    4: spoilt.TRUTHS,
}
GOOD = [
    [0, "ann", "bob", [1, 2, 3], False],
    [65535, "ann", "bob", [1, 2, 3], True],
    [1, "a", "z", [5], False],
    [2, "abcdefgh", "stuvwxyz", [5, 6], True],
    [3, "ann", "ann", [0], False],
    [4, "ann", "bob", [255], False],
    [5, "ann", "bob", [0, 255, 128, 1, 254], True],
    [6, "ann", "bob", [9] * 4000, False],
    [8, "ann", "bob", [n % 256 for n in range(3999)], True],
]
OTHERWISE = [
    [8, "ann", "bob", [10, 0, 255], True],
    [7, "anna", "bob", [10, 0, 255], True],
    [7, "bob", "bob", [10, 0, 255], True],
    [7, "ann", "ann", [10, 0, 255], True],
    [7, "ann", "bo", [10, 0, 255], True],
    [7, "bob", "ann", [10, 0, 255], True],
    [7, "ann", "bob", [11, 0, 255], True],
    [7, "ann", "bob", [10, 1, 255], True],
    [7, "ann", "bob", [10, 0, 254], True],
    [7, "ann", "bob", [0, 10, 255], True],
    [7, "ann", "bob", [10, 0], True],
    [7, "ann", "bob", [0, 255], True],
    [7, "ann", "bob", [10, 0, 255, 0], True],
    [7, "ann", "bob", [10, 0, 255], False],
]


class GoodLetters(unittest.TestCase):
    def check(self, letter, parts):
        fields = [letter.number, letter.sender, letter.goal, letter.body, letter.keep]
        self.assertEqual(fields, parts)
        self.assertIs(letter.keep, parts[4])
        self.assertIs(type(letter.body), list)
        self.assertEqual(letter.key(), (parts[0], parts[1], parts[2]))
        self.assertIs(type(letter.key()), tuple)

    def test_fields_and_key_are_those_handed_in(self):
        for parts in GOOD:
            with self.subTest(parts=parts[:3]):
                self.check(Letter(*parts), parts)

    def test_keep_may_be_named(self):
        for keep in [True, False]:
            self.check(Letter(*PARTS[:4], keep=keep), PARTS[:4] + [keep])

    def test_keep_left_out_is_false(self):
        for parts in GOOD:
            self.check(Letter(*parts[:4]), parts[:4] + [False])

    def test_every_byte_is_let_by(self):
        body = list(range(256))
        self.assertEqual(Letter(7, "ann", "bob", body).body, body)


class OwnLists(unittest.TestCase):
    def test_the_list_handed_in_stays_as_it_was(self):
        body = [3, 1, 2]
        letter = Letter(7, "ann", "bob", body)
        letter.key()
        letter.is_like(letter)
        self.assertEqual(body, [3, 1, 2])

    def test_a_change_behind_changes_nothing(self):
        body = [3, 1, 2]
        letter = Letter(7, "ann", "bob", body)
        body[0] = 9
        body.append(4)
        self.assertEqual(letter.body, [3, 1, 2])
        body.clear()
        self.assertEqual(letter.body, [3, 1, 2])

    def test_two_of_one_list_know_nothing_of_one_another(self):
        body = [3, 1, 2]
        one = Letter(7, "ann", "bob", body)
        other = Letter(7, "ann", "bob", body)
        one.body[1] = 8
        one.body.append(5)
        self.assertEqual(other.body, [3, 1, 2])
        self.assertEqual(body, [3, 1, 2])

    def test_one_made_of_another_ones_body_has_its_own(self):
        one = Letter(7, "ann", "bob", [3, 1, 2])
        other = Letter(8, "ann", "bob", one.body)
        one.body.append(5)
        self.assertEqual(other.body, [3, 1, 2])


class RefusedLetters(unittest.TestCase):
    def check(self, parts):
        before = copy.deepcopy(parts)
        with self.subTest(parts=repr(parts)[:80]):
            with self.assertRaises(NoLetter) as caught:
                Letter(*parts)
            self.assertIs(type(caught.exception), NoLetter)
            self.assertIsInstance(caught.exception, WayError)
            self.assertIsInstance(caught.exception, ValueError)
            self.assertEqual(repr(parts), repr(before))

    def test_each_part_spoilt(self):
        for parts in spoilt.with_each_spoilt(PARTS, SPOILT):
            self.check(parts)

    def test_two_parts_spoilt(self):
        for parts in spoilt.with_two_spoilt(PARTS, SPOILT):
            self.check(parts)

    def test_all_parts_spoilt(self):
        for place in range(9):
            self.check([SPOILT[part][place] for part in range(5)])
        self.check([None] * 5)

    def test_a_spoilt_byte_far_behind(self):
        for value in spoilt.BYTES:
            self.check([7, "ann", "bob", [0] * 3999 + [value], False])

    def test_keep_spoilt_by_name(self):
        for keep in spoilt.TRUTHS:
            with self.assertRaises(NoLetter):
                Letter(*PARTS[:4], keep=keep)


class LikeLetters(unittest.TestCase):
    def test_made_of_the_same_parts(self):
        for parts in GOOD:
            one = Letter(*parts)
            other = Letter(*copy.deepcopy(parts))
            self.assertIs(one.is_like(other), True)
            self.assertIs(other.is_like(one), True)
            self.assertIs(one.is_like(one), True)

    def test_keep_left_out_is_like_false(self):
        self.assertIs(Letter(*PARTS[:4]).is_like(Letter(*PARTS[:4], keep=False)), True)

    def test_one_field_otherwise(self):
        one = Letter(*PARTS)
        for parts in OTHERWISE:
            with self.subTest(parts=parts):
                other = Letter(*parts)
                self.assertIs(one.is_like(other), False)
                self.assertIs(other.is_like(one), False)

    def test_the_last_byte_of_many_otherwise(self):
        one = Letter(7, "ann", "bob", [1] * 4000)
        other = Letter(7, "ann", "bob", [1] * 3999 + [2])
        self.assertIs(one.is_like(other), False)
        self.assertIs(other.is_like(one), False)


if __name__ == "__main__":
    unittest.main()
