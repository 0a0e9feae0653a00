import copy
import unittest

import spoilt
from pieceways.cutting import cut, cut_again
from pieceways.errors import NoWidth, TooWide, WayError
from pieceways.letters import Letter, Piece

EDGE_WIDTHS = [8, 9, 15, 16, 17, 100, 1999, 2000, 2001, 3991, 3992, 3999, 4000, 4001, 4999, 5000]
EDGE_LENGTHS = [1, 7, 8, 9, 1999, 2000, 2001, 3991, 3992, 3993, 3999, 4000]


def body_of(length, first=3):
    # 251 divides by no width of eights, so a byte at a wrong number shows.
    return [(first + number) % 251 for number in range(length)]


def letter_of(length, keep=False):
    return Letter(7, "ann", "bob", body_of(length), keep)


def piece_of(at, length, more, keep=False):
    return Piece(9, "cy", "dora", at, body_of(length, 60), more, keep)


def parts(thing):
    return copy.deepcopy(vars(thing))


def all_parts(pieces):
    return [parts(piece) for piece in pieces]


def lengths(pieces):
    return [len(piece.body) for piece in pieces]


def greatest_of_eights(width):
    return max(number for number in range(0, width + 1, 8))


class Cuts(unittest.TestCase):
    """What [6] and [7] ask of the pieces into which a letter or a piece is cut."""

    def check_lengths(self, pieces, length, width):
        told = lengths(pieces)
        self.assertEqual(sum(told), length)
        full = greatest_of_eights(width)
        self.assertEqual(told[:-1], [full] * (len(told) - 1))
        self.assertTrue(1 <= told[-1] <= width)
        if len(told) > 1:
            self.assertGreater(told[-2] + told[-1], width, "the last one was cut off too late")

    def check_pieces(self, pieces, source, at, more, width):
        self.assertIs(type(pieces), list)
        self.check_lengths(pieces, len(source.body), width)
        body = []
        for place, piece in enumerate(pieces):
            self.assertIs(type(piece), Piece)
            self.assertEqual(piece.key(), source.key())
            self.assertEqual(piece.at, at + len(body))
            self.assertIs(piece.more, more if place == len(pieces) - 1 else True)
            self.assertIs(piece.keep, source.keep)
            body = body + piece.body
        self.assertEqual(body, source.body)

    def check_cut(self, letter, width):
        with self.subTest(length=len(letter.body), width=width):
            before = parts(letter)
            self.check_pieces(cut(letter, width), letter, 0, False, width)
            self.assertEqual(parts(letter), before)

    def check_again(self, piece, width):
        with self.subTest(at=piece.at, length=len(piece.body), more=piece.more, width=width):
            before = parts(piece)
            self.check_pieces(cut_again(piece, width), piece, piece.at, piece.more, width)
            self.assertEqual(parts(piece), before)


class CutLetters(Cuts):
    def test_twenty_bytes_by_fifteen_come_to_eight_and_twelve(self):
        pieces = cut(Letter(7, "ann", "bob", list(range(20))), 15)
        self.assertEqual([piece.body for piece in pieces], [list(range(8)), list(range(8, 20))])
        self.assertEqual([piece.at for piece in pieces], [0, 8])
        self.assertEqual([piece.more for piece in pieces], [True, False])

    def test_written_out(self):
        rows = [
            (1, 8, [1]), (8, 8, [8]), (9, 8, [8, 1]), (16, 8, [8, 8]), (17, 8, [8, 8, 1]),
            (15, 15, [15]), (16, 15, [8, 8]), (23, 15, [8, 15]), (24, 15, [8, 8, 8]),
            (16, 16, [16]), (17, 16, [16, 1]), (32, 16, [16, 16]), (33, 16, [16, 16, 1]),
            (17, 17, [17]), (18, 17, [16, 2]), (33, 17, [16, 17]), (34, 17, [16, 16, 2]),
            (3999, 3999, [3999]), (4000, 3999, [3992, 8]), (4000, 4000, [4000]), (4000, 5000, [4000]),
            (4000, 8, [8] * 500), (3999, 8, [8] * 499 + [7]), (4000, 15, [8] * 499 + [8]), (3999, 15, [8] * 498 + [15]),
        ]
        for length, width, told in rows:
            with self.subTest(length=length, width=width):
                self.assertEqual(lengths(cut(letter_of(length), width)), told)

    def test_small_lengths_and_widths(self):
        for length in range(1, 100):
            for width in range(8, 42):
                self.check_cut(letter_of(length), width)

    def test_edges(self):
        for width in EDGE_WIDTHS:
            near = [length for length in [width - 1, width, width + 1] if 1 <= length <= 4000]
            for length in EDGE_LENGTHS + near:
                self.check_cut(letter_of(length), width)

    def test_one_piece_alone_where_the_body_is_not_longer(self):
        for length, width in [(1, 8), (8, 8), (7, 8), (15, 15), (1, 5000), (4000, 4000), (4000, 5000)]:
            for keep in [True, False]:
                letter = letter_of(length, keep)
                pieces = cut(letter, width)
                self.assertEqual(len(pieces), 1)
                self.assertTrue(pieces[0].is_like(Piece(7, "ann", "bob", 0, letter.body, False, keep)))

    def test_keep_is_that_of_the_letter(self):
        self.check_cut(letter_of(40, True), 40)
        self.check_cut(letter_of(40, False), 39)

    def test_a_changed_answer_changes_nothing(self):
        for length, width in [(40, 16), (12, 16)]:
            letter = letter_of(length)
            before = parts(letter)
            told = cut(letter, width)
            wanted = all_parts(told)
            told[0].body[0] = 99
            told[0].body.append(1)
            told[-1].body.clear()
            told.reverse()
            told.append(None)
            self.assertEqual(parts(letter), before)
            self.assertEqual(all_parts(cut(letter, width)), wanted)

    def test_pieces_are_new_ones_each_time(self):
        letter = letter_of(40)
        one = cut(letter, 16)
        other = cut(letter, 16)
        self.assertIsNot(one, other)
        for piece, twin in zip(one, other, strict=True):
            self.assertIsNot(piece, twin)
            self.assertIsNot(piece.body, twin.body)


class CutPieces(Cuts):
    def test_written_out(self):
        rows = [
            (16, 24, True, 8, [(16, 8, True), (24, 8, True), (32, 8, True)]),
            (16, 24, False, 8, [(16, 8, True), (24, 8, True), (32, 8, False)]),
            (16, 24, True, 16, [(16, 16, True), (32, 8, True)]),
            (16, 24, True, 23, [(16, 16, True), (32, 8, True)]),
            (16, 24, True, 24, [(16, 24, True)]),
            (8, 20, False, 15, [(8, 8, True), (16, 12, False)]),
            (8, 20, False, 20, [(8, 20, False)]),
            (3984, 16, False, 15, [(3984, 8, True), (3992, 8, False)]),
            (3976, 16, True, 15, [(3976, 8, True), (3984, 8, True)]),
        ]
        for at, length, more, width, told in rows:
            with self.subTest(at=at, length=length, more=more, width=width):
                pieces = cut_again(piece_of(at, length, more), width)
                self.assertEqual([(piece.at, len(piece.body), piece.more) for piece in pieces], told)

    def test_small_lengths_and_widths(self):
        for at in [0, 8, 64]:
            for width in range(8, 34):
                for length in range(1, 60):
                    self.check_again(piece_of(at, length, False), width)
                for length in range(8, 88, 8):
                    self.check_again(piece_of(at, length, True), width)

    def test_edges(self):
        for width in EDGE_WIDTHS:
            for at, length in [(0, 4000), (8, 3992), (8, 3991), (3992, 8), (3992, 1), (2000, 2000), (2000, 1999)]:
                self.check_again(piece_of(at, length, False), width)
            for at, length in [(0, 3992), (8, 3984), (3984, 8), (2000, 1992), (2000, 8)]:
                self.check_again(piece_of(at, length, True), width)

    def test_one_alone_alike_and_new(self):
        for at, length, more, width in [(8, 16, True, 16), (8, 16, False, 5000), (0, 1, False, 8), (16, 15, False, 15)]:
            for keep in [True, False]:
                piece = piece_of(at, length, more, keep)
                told = cut_again(piece, width)
                self.assertEqual(len(told), 1)
                self.assertTrue(told[0].is_like(piece))
                self.assertIsNot(told[0], piece)
                self.assertIsNot(told[0].body, piece.body)
                self.assertIsNot(cut_again(piece, width)[0], told[0])

    def test_a_changed_answer_changes_nothing(self):
        for length, more, width in [(40, True, 16), (39, False, 16), (16, True, 16), (11, False, 16)]:
            piece = piece_of(24, length, more)
            before = parts(piece)
            told = cut_again(piece, width)
            wanted = all_parts(told)
            told[0].body[0] = 99
            told[-1].body.append(1)
            told.clear()
            self.assertEqual(parts(piece), before)
            self.assertEqual(all_parts(cut_again(piece, width)), wanted)

    def test_cut_again_by_the_same_width_is_cut_no_further(self):
        for width in [8, 15, 16, 31, 100]:
            for piece in cut(letter_of(333), width):
                told = cut_again(piece, width)
                self.assertEqual(all_parts(told), [parts(piece)])


class RefusedCuts(unittest.TestCase):
    def check(self, refusal, function, thing, width):
        before = parts(thing)
        width_before = repr(width)
        with self.subTest(function=function.__name__, width=width_before):
            with self.assertRaises(WayError) as caught:
                function(thing, width)
            self.assertIs(type(caught.exception), refusal)
            self.assertEqual(parts(thing), before)
            self.assertEqual(repr(width), width_before)

    def test_no_width(self):
        for width in spoilt.WIDTHS:
            for length in [1, 8, 40]:
                for keep in [True, False]:
                    self.check(NoWidth, cut, letter_of(length, keep), width)
                    self.check(NoWidth, cut_again, piece_of(8, length, False, keep), width)
            self.check(NoWidth, cut_again, piece_of(8, 40, True, True), width)

    def test_the_outermost_widths_are_none_refused(self):
        for width in [8, 5000]:
            self.assertTrue(cut(letter_of(40), width))
            self.assertTrue(cut_again(piece_of(8, 40, True), width))

    def test_too_wide_just_where_keep_is_true_and_the_body_longer(self):
        for length in [1, 8, 9, 16, 17, 40, 41]:
            for width in [8, 9, 15, 16, 17, 39, 40, 41]:
                if length > width:
                    self.check(TooWide, cut, letter_of(length, True), width)
                    self.check(TooWide, cut_again, piece_of(8, length, False, True), width)
                else:
                    self.assertEqual(lengths(cut(letter_of(length, True), width)), [length])
                    self.assertEqual(lengths(cut_again(piece_of(8, length, False, True), width)), [length])
                self.assertEqual(sum(lengths(cut(letter_of(length, False), width))), length)

    def test_too_wide_with_more(self):
        self.check(TooWide, cut_again, piece_of(8, 24, True, True), 23)
        self.assertEqual(lengths(cut_again(piece_of(8, 24, True, True), 24)), [24])

    def test_the_greatest_letter(self):
        self.check(TooWide, cut, letter_of(4000, True), 3999)
        self.assertEqual(lengths(cut(letter_of(4000, True), 4000)), [4000])


if __name__ == "__main__":
    unittest.main()
