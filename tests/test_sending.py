import copy
import functools
import itertools
import random
import unittest

import spoilt
from pieceways.cutting import best, cut, cut_again, least, sent
from pieceways.errors import NoLetter, NoWidth, TooWide, WayError
from pieceways.letters import Letter

ROADS = [
    [8], [5000], [15], [16], [15, 8], [8, 15], [40, 15], [40, 24, 15], [15, 24, 40], [24, 17, 23, 9], [100, 16, 100, 8],
    [23, 16], [16, 23], [31, 17, 8], [8] * 20, [5000] * 20, [15] * 20, list(range(8, 28)), list(range(60, 40, -1)),
]


def letter_of(length, keep=False):
    return Letter(5, "eve", "finn", [(7 * number + 1) % 251 for number in range(length)], keep)


def all_parts(pieces):
    return [copy.deepcopy(vars(piece)) for piece in pieces]


def sent_step_by_step(letter, widths):
    pieces = cut(letter, widths[0])
    for width in widths[1:]:
        pieces = [part for piece in pieces for part in cut_again(piece, width)]
    return pieces


def ways_to_cut(length, width):
    """Every row of lengths into which so many bytes can be cut, none above the width, all but the last by eights."""
    told = [[length]] if length <= width else []
    for first in range(8, min(length, width + 1), 8):
        told.extend([first] + rest for rest in ways_to_cut(length - first, width))
    return told


@functools.lru_cache(maxsize=None)
def fewest(length, widths):
    """The least number of pieces at the end of the road, by every way to cut ahead of each of its widths."""
    if not widths:
        return 1
    return min(sum(fewest(part, widths[1:]) for part in way) for way in ways_to_cut(length, widths[0]))


def some_roads(seed, count):
    chance = random.Random(seed)
    return [[chance.randrange(8, 70) for _ in range(chance.randrange(1, 21))] for _ in range(count)]


class Sent(unittest.TestCase):
    def test_just_what_comes_of_cutting_by_each_width_in_order(self):
        for widths in ROADS + some_roads(1, 40):
            for length in [1, 8, 9, 20, 40, 41, 77, 150]:
                with self.subTest(widths=widths, length=length):
                    told = sent(letter_of(length), widths)
                    self.assertIs(type(told), list)
                    self.assertEqual(all_parts(told), all_parts(sent_step_by_step(letter_of(length), widths)))

    def test_the_greatest_letter(self):
        for widths in [[8], [5000], [3999, 2000, 999, 100], [1500, 576, 1500, 68]]:
            told = sent(letter_of(4000), widths)
            self.assertEqual(all_parts(told), all_parts(sent_step_by_step(letter_of(4000), widths)))
            self.assertEqual([byte for piece in told for byte in piece.body], letter_of(4000).body)

    def test_written_out(self):
        rows = [
            (40, [24, 15], [(0, 8), (8, 8), (16, 8), (24, 8), (32, 8)]),
            (40, [15, 24], [(0, 8), (8, 8), (16, 8), (24, 8), (32, 8)]),
            (41, [40, 24], [(0, 24), (24, 16), (40, 1)]),
            (41, [24], [(0, 24), (24, 17)]),
            (20, [15], [(0, 8), (8, 12)]),
            (20, [16, 15], [(0, 8), (8, 8), (16, 4)]),
        ]
        for length, widths, told in rows:
            with self.subTest(length=length, widths=widths):
                pieces = sent(letter_of(length), widths)
                self.assertEqual([(piece.at, len(piece.body)) for piece in pieces], told)
                self.assertEqual([piece.more for piece in pieces], [True] * (len(told) - 1) + [False])

    def test_widths_not_narrower_than_one_ahead_change_nothing(self):
        for widths in [[15], [24, 17], [40, 24, 9], [8]]:
            wanted = all_parts(sent(letter_of(100), widths))
            for added in [widths[-1], widths[-1] + 1, widths[-1] + 8, 5000]:
                self.assertEqual(all_parts(sent(letter_of(100), widths + [added])), wanted)
                self.assertEqual(all_parts(sent(letter_of(100), widths + [added] * 10 + [5000])), wanted)
            for place in range(1, len(widths)):
                wider = widths[:place] + [widths[place - 1] + 3] + widths[place:]
                self.assertEqual(all_parts(sent(letter_of(100), wider)), wanted)

    def test_a_letter_that_may_not_be_cut_goes_where_it_fits(self):
        for widths in [[40], [5000, 40, 41], [40] * 20]:
            told = sent(letter_of(40, True), widths)
            self.assertEqual(len(told), 1)
            self.assertEqual((told[0].at, told[0].body, told[0].more), (0, letter_of(40).body, False))
            self.assertIs(told[0].keep, True)

    def test_nothing_handed_in_is_changed_and_answers_are_new(self):
        letter = letter_of(50)
        widths = [24, 15]
        told = sent(letter, widths)
        wanted = all_parts(told)
        told[0].body[0] = 99
        told[1].body.clear()
        told.clear()
        self.assertEqual(widths, [24, 15])
        self.assertEqual(vars(letter), vars(letter_of(50)))
        self.assertEqual(all_parts(sent(letter, widths)), wanted)


class LeastAndBest(unittest.TestCase):
    def test_against_every_way_to_cut(self):
        roads = [[width] for width in range(8, 34)]
        roads += [list(road) for road in itertools.product([8, 9, 15, 16, 23, 24, 31], repeat=2)]
        roads += [[31, 17, 24], [24, 15, 16], [40, 33, 25], [8, 40, 8], [16, 40, 23, 17]]
        for widths in roads:
            for length in range(1, 50):
                with self.subTest(widths=widths, length=length):
                    self.assertEqual(least(length, widths), fewest(length, tuple(widths)))

    def test_written_out(self):
        rows = [
            (20, [15], 2), (1, [8], 1), (8, [8], 1), (9, [8], 2), (4000, [8], 500), (3999, [8], 500), (4000, [15], 500),
            (3999, [15], 499), (4000, [5000], 1), (4000, [4000], 1), (4000, [3999], 2), (23, [15], 2), (24, [15], 3),
            (33, [17], 2), (34, [17], 3), (33, [5000, 17, 40], 2), (4000, [1500, 1000, 1500], 4), (4000, [999], 5),
        ]
        for length, widths, told in rows:
            with self.subTest(length=length, widths=widths):
                self.assertEqual(least(length, widths), told)

    def test_for_all_lengths_the_number_is_reached_and_one_less_is_too_few(self):
        for widths in [[8], [9], [100, 15], [16, 100], [999, 1000], [68, 576, 1500], [3999], [4000], [5000]]:
            width = min(widths)
            full = max(range(0, width + 1, 8))
            for length in range(1, 4001):
                told = least(length, widths)
                self.assertGreaterEqual(told, 1)
                self.assertLessEqual(length, (told - 1) * full + width)
                if told > 1:
                    self.assertGreater(length, (told - 2) * full + width)

    def check_best(self, letter, widths):
        told = best(letter, widths)
        self.assertIs(type(told), list)
        self.assertEqual(len(told), least(len(letter.body), widths))
        self.assertEqual(all_parts(told), all_parts(cut(letter, min(widths))))
        for piece in told:
            for width in widths:
                self.assertEqual(all_parts(cut_again(piece, width)), all_parts([piece]))
        self.assertGreaterEqual(len(sent(letter, widths)), len(told))

    def test_best(self):
        for widths in ROADS + some_roads(2, 40):
            for length in [1, 8, 9, 20, 40, 41, 77, 150]:
                with self.subTest(widths=widths, length=length):
                    self.check_best(letter_of(length), widths)
        self.check_best(letter_of(4000), [1500, 576, 1500])
        self.check_best(letter_of(4000), [8, 9])

    def test_sent_may_come_to_more(self):
        self.assertEqual(len(sent(letter_of(41), [40, 24])), 3)
        self.assertEqual(len(best(letter_of(41), [40, 24])), 2)

    def test_best_of_what_may_not_be_cut(self):
        told = best(letter_of(40, True), [41, 40, 5000])
        self.assertEqual(all_parts(told), all_parts(cut(letter_of(40, True), 40)))
        self.assertEqual(len(told), 1)

    def test_nothing_handed_in_is_changed_and_answers_are_new(self):
        letter = letter_of(50)
        widths = [24, 15, 40]
        told = best(letter, widths)
        wanted = all_parts(told)
        told[0].body[0] = 99
        told[-1].body.append(1)
        told.clear()
        self.assertEqual(least(50, widths), 6)
        self.assertEqual(widths, [24, 15, 40])
        self.assertEqual(vars(letter), vars(letter_of(50)))
        self.assertEqual(all_parts(best(letter, widths)), wanted)


class RefusedRoads(unittest.TestCase):
    def check(self, refusal, function, thing, widths):
        before = (repr(widths), copy.deepcopy(vars(thing)) if isinstance(thing, Letter) else repr(thing))
        with self.subTest(function=function.__name__, thing=repr(thing), widths=repr(widths)):
            with self.assertRaises(WayError) as caught:
                function(thing, widths)
            self.assertIs(type(caught.exception), refusal)
            after = (repr(widths), vars(thing) if isinstance(thing, Letter) else repr(thing))
            self.assertEqual(after, before)

    def test_no_widths(self):
        for widths in spoilt.width_lists():
            self.check(NoWidth, sent, letter_of(10), widths)
            self.check(NoWidth, best, letter_of(10), widths)
            self.check(NoWidth, least, 10, widths)

    def test_no_widths_ahead_of_too_wide(self):
        for widths in spoilt.width_lists():
            self.check(NoWidth, sent, letter_of(50, True), widths)
            self.check(NoWidth, best, letter_of(50, True), widths)

    def test_no_widths_ahead_of_no_letter(self):
        for widths in spoilt.width_lists():
            for length in [0, 4001, True, None]:
                self.check(NoWidth, least, length, widths)

    def test_no_length(self):
        for length in spoilt.LENGTHS:
            for widths in [[8], [5000], [16, 24], [8] * 20]:
                self.check(NoLetter, least, length, widths)

    def test_one_and_twenty_widths_are_none_refused(self):
        for widths in [[8], [5000], [8] * 20, [5000] * 20]:
            self.assertTrue(sent(letter_of(10), widths))
            self.assertTrue(best(letter_of(10), widths))
            self.assertTrue(least(1, widths) == 1 and least(4000, widths) >= 1)

    def test_too_wide_just_where_keep_is_true_and_one_width_too_narrow(self):
        for widths in [[39], [40, 39], [39, 40], [5000, 5000, 8], [40] * 19 + [39], [8], [15, 8]]:
            self.check(TooWide, sent, letter_of(40, True), widths)
            self.check(TooWide, best, letter_of(40, True), widths)
            self.assertEqual(sum(len(piece.body) for piece in sent(letter_of(40), widths)), 40)
            self.assertEqual(sum(len(piece.body) for piece in best(letter_of(40), widths)), 40)
        for widths in [[40], [41, 40], [5000] * 20]:
            self.assertEqual(len(sent(letter_of(40, True), widths)), 1)
            self.assertEqual(len(best(letter_of(40, True), widths)), 1)


if __name__ == "__main__":
    unittest.main()
