import copy
import unittest

import spoilt
from pieceways.errors import NoPiece, WayError
from pieceways.letters import Piece

EIGHT = [10, 0, 255, 1, 2, 3, 4, 5]
PARTS = [7, "ann", "bob", 16, EIGHT, True, False]
LAST_PARTS = [7, "ann", "bob", 16, [10, 0, 255], False, True]
SPOILT = {
    0: spoilt.NUMBERS,
    1: spoilt.NAMES,
    2: spoilt.NAMES,
    3: spoilt.PLACES,
    4: spoilt.bodies(EIGHT),
    5: spoilt.TRUTHS,
    6: spoilt.TRUTHS,
}
GOOD = [
    [0, "ann", "bob", 0, EIGHT, True, False],
    [65535, "ann", "bob", 8, [1, 2, 3], False, True],
    [1, "a", "z", 0, [0], False, False],
    [2, "abcdefgh", "stuvwxyz", 24, [255], False, True],
    [3, "ann", "ann", 0, [9] * 4000, False, False],
    [4, "ann", "bob", 8, [9] * 3992, False, True],
    [5, "ann", "bob", 3992, [9] * 8, False, False],
    [6, "ann", "bob", 3992, [9], False, True],
    [7, "ann", "bob", 3984, [9] * 8, True, False],
    [8, "ann", "bob", 0, [9] * 3992, True, True],
    [9, "ann", "bob", 8, [9] * 3984, True, False],
    [10, "ann", "bob", 16, [9] * 3983, False, False],
]
OUT_OF_BOUNDS = [
    (0, 4001, False), (8, 3993, False), (3992, 9, False), (3992, 16, False), (4000, 1, False), (4008, 1, False),
    (8, 4000, False), (8 * 10 ** 18, 1, False),
    (0, 4000, True), (8, 3992, True), (3992, 8, True), (3984, 16, True), (4000, 8, True), (0, 4008, True),
]
OTHERWISE = [
    [8, "ann", "bob", 16, EIGHT, True, False],
    [7, "anna", "bob", 16, EIGHT, True, False],
    [7, "bob", "bob", 16, EIGHT, True, False],
    [7, "ann", "ann", 16, EIGHT, True, False],
    [7, "ann", "bo", 16, EIGHT, True, False],
    [7, "bob", "ann", 16, EIGHT, True, False],
    [7, "ann", "bob", 0, EIGHT, True, False],
    [7, "ann", "bob", 24, EIGHT, True, False],
    [7, "ann", "bob", 16, [11] + EIGHT[1:], True, False],
    [7, "ann", "bob", 16, EIGHT[:7] + [6], True, False],
    [7, "ann", "bob", 16, EIGHT + EIGHT, True, False],
    [7, "ann", "bob", 16, EIGHT, False, False],
    [7, "ann", "bob", 16, EIGHT, True, True],
]


class GoodPieces(unittest.TestCase):
    def check(self, piece, parts):
        fields = [piece.number, piece.sender, piece.goal, piece.at, piece.body, piece.more, piece.keep]
        self.assertEqual(fields, parts)
        self.assertIs(piece.more, parts[5])
        self.assertIs(piece.keep, parts[6])
        self.assertIs(type(piece.body), list)
        self.assertEqual(piece.key(), (parts[0], parts[1], parts[2]))
        self.assertIs(type(piece.key()), tuple)
        self.assertEqual(piece.end(), parts[3] + len(parts[4]))

    def test_fields_key_and_end_are_those_handed_in(self):
        for parts in GOOD + [PARTS, LAST_PARTS]:
            with self.subTest(parts=parts[:4]):
                self.check(Piece(*parts), parts)

    def test_ends_at_the_edges(self):
        self.assertEqual(Piece(7, "ann", "bob", 3992, [1] * 8, False).end(), 4000)
        self.assertEqual(Piece(7, "ann", "bob", 3984, [1] * 8, True).end(), 3992)
        self.assertEqual(Piece(7, "ann", "bob", 0, [1], False).end(), 1)

    def test_keep_may_be_named(self):
        for keep in [True, False]:
            self.check(Piece(*PARTS[:6], keep=keep), PARTS[:6] + [keep])

    def test_keep_left_out_is_false(self):
        for parts in GOOD:
            self.check(Piece(*parts[:6]), parts[:6] + [False])

    def test_every_place_is_let_by(self):
        for at in range(0, 4000, 8):
            self.assertEqual(Piece(7, "ann", "bob", at, [1], False).at, at)

    def test_a_last_piece_may_have_any_length(self):
        for length in range(1, 42):
            self.assertEqual(Piece(7, "ann", "bob", 8, [1] * length, False).end(), 8 + length)


class OwnLists(unittest.TestCase):
    def test_the_list_handed_in_stays_as_it_was(self):
        body = [3, 1, 2]
        piece = Piece(7, "ann", "bob", 0, body, False)
        piece.key()
        piece.end()
        piece.is_like(piece)
        self.assertEqual(body, [3, 1, 2])

    def test_a_change_behind_changes_nothing(self):
        body = [3, 1, 2]
        piece = Piece(7, "ann", "bob", 8, body, False)
        body[0] = 9
        body.append(4)
        self.assertEqual(piece.body, [3, 1, 2])
        self.assertEqual(piece.end(), 11)
        body.clear()
        self.assertEqual(piece.body, [3, 1, 2])
        self.assertEqual(piece.end(), 11)

    def test_two_of_one_list_know_nothing_of_one_another(self):
        body = [3, 1, 2]
        one = Piece(7, "ann", "bob", 8, body, False)
        other = Piece(7, "ann", "bob", 8, body, False)
        one.body[1] = 8
        one.body.append(5)
        self.assertEqual(other.body, [3, 1, 2])
        self.assertEqual(other.end(), 11)
        self.assertEqual(body, [3, 1, 2])


class RefusedPieces(unittest.TestCase):
    def check(self, parts):
        before = copy.deepcopy(parts)
        with self.subTest(parts=repr(parts)[:80]):
            with self.assertRaises(NoPiece) as caught:
                Piece(*parts)
            self.assertIs(type(caught.exception), NoPiece)
            self.assertIsInstance(caught.exception, WayError)
            self.assertIsInstance(caught.exception, ValueError)
            self.assertEqual(repr(parts), repr(before))

    def test_each_part_spoilt(self):
        for parts in spoilt.with_each_spoilt(PARTS, SPOILT):
            self.check(parts)

    def test_each_part_of_a_last_piece_spoilt(self):
        spoilt_parts = dict(SPOILT)
        spoilt_parts[4] = spoilt.bodies(LAST_PARTS[4])
        for parts in spoilt.with_each_spoilt(LAST_PARTS, spoilt_parts):
            self.check(parts)

    def test_two_parts_spoilt(self):
        for parts in spoilt.with_two_spoilt(PARTS, SPOILT):
            self.check(parts)

    def test_all_parts_spoilt(self):
        for place in range(9):
            self.check([SPOILT[part][place] for part in range(7)])
        self.check([None] * 7)

    def test_a_spoilt_byte_far_behind(self):
        for value in spoilt.BYTES:
            self.check([7, "ann", "bob", 0, [0] * 3999 + [value], False])

    def test_every_place_not_divisible_by_eight(self):
        for at in range(-40, 4000):
            if at < 0 or at % 8 != 0:
                with self.assertRaises(NoPiece):
                    Piece(7, "ann", "bob", at, [1], False)

    def test_more_with_a_length_not_divisible_by_eight(self):
        for length in list(range(1, 42)) + [3985, 3991, 3993, 3999]:
            if length % 8 != 0:
                self.check([7, "ann", "bob", 0, [1] * length, True, False])

    def test_beyond_the_greatest_letter(self):
        for at, length, more in OUT_OF_BOUNDS:
            self.check([7, "ann", "bob", at, [1] * length, more, False])

    def test_keep_spoilt_by_name(self):
        for keep in spoilt.TRUTHS:
            with self.assertRaises(NoPiece):
                Piece(*PARTS[:6], keep=keep)


class LikePieces(unittest.TestCase):
    def check_unlike(self, parts, others):
        one = Piece(*parts)
        for other_parts in others:
            with self.subTest(parts=other_parts):
                other = Piece(*other_parts)
                self.assertIs(one.is_like(other), False)
                self.assertIs(other.is_like(one), False)

    def test_made_of_the_same_parts(self):
        for parts in GOOD + [PARTS, LAST_PARTS]:
            one = Piece(*parts)
            other = Piece(*copy.deepcopy(parts))
            self.assertIs(one.is_like(other), True)
            self.assertIs(other.is_like(one), True)
            self.assertIs(one.is_like(one), True)

    def test_keep_left_out_is_like_false(self):
        self.assertIs(Piece(*PARTS[:6]).is_like(Piece(*PARTS[:6], keep=False)), True)

    def test_one_field_otherwise(self):
        self.check_unlike(PARTS, OTHERWISE)

    def test_a_byte_less_or_more(self):
        key_and_at = LAST_PARTS[:4]
        bodies = [[10, 0], [0, 255], [10, 0, 255, 0], [10, 0, 254], [0, 10, 255]]
        self.check_unlike(LAST_PARTS, [key_and_at + [body, False, True] for body in bodies])

    def test_the_same_end_from_another_place(self):
        self.check_unlike([7, "ann", "bob", 0, [1] * 16, False], [[7, "ann", "bob", 8, [1] * 8, False]])


if __name__ == "__main__":
    unittest.main()
