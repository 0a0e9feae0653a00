import itertools
import random
import unittest

from pieceways.spans import lacking, size_of, with_span

MOST = 8


def cover_of(numbers):
    """The cover of a set of numbers, found number by number."""
    told = []
    for number in sorted(numbers):
        if told and told[-1][1] == number:
            told[-1] = (told[-1][0], number + 1)
        else:
            told.append((number, number + 1))
    return told


def numbers_of(cover):
    return {number for low, high in cover for number in range(low, high)}


def all_covers():
    return [cover_of({n for n in range(MOST) if chosen >> n & 1}) for chosen in range(2 ** MOST)]


def all_spans():
    return list(itertools.combinations(range(MOST + 3), 2))


class WithSpan(unittest.TestCase):
    def test_written_out(self):
        cover = [(8, 16), (24, 32), (40, 48)]
        rows = [
            ((0, 4), [(0, 4), (8, 16), (24, 32), (40, 48)]),
            ((0, 8), [(0, 16), (24, 32), (40, 48)]),
            ((0, 7), [(0, 7), (8, 16), (24, 32), (40, 48)]),
            ((16, 20), [(8, 20), (24, 32), (40, 48)]),
            ((17, 23), [(8, 16), (17, 23), (24, 32), (40, 48)]),
            ((16, 24), [(8, 32), (40, 48)]),
            ((10, 12), cover),
            ((8, 16), cover),
            ((9, 25), [(8, 32), (40, 48)]),
            ((0, 100), [(0, 100)]),
            ((16, 40), [(8, 48)]),
            ((48, 50), [(8, 16), (24, 32), (40, 50)]),
            ((49, 50), [(8, 16), (24, 32), (40, 48), (49, 50)]),
            ((20, 36), [(8, 16), (20, 36), (40, 48)]),
        ]
        for span, told in rows:
            with self.subTest(span=span):
                self.assertEqual(with_span(cover, span), told)

    def test_the_empty_cover(self):
        for span in [(0, 1), (0, 8), (5, 6), (8, 4000)]:
            self.assertEqual(with_span([], span), [span])

    def test_number_by_number(self):
        for cover in all_covers():
            for low, high in all_spans():
                wanted = cover_of(numbers_of(cover) | set(range(low, high)))
                self.assertEqual(with_span(cover, (low, high)), wanted, (cover, low, high))

    def test_any_order_gives_the_same_cover(self):
        chance = random.Random(3)
        for _ in range(200):
            spans = [tuple(sorted(chance.sample(range(40), 2))) for _ in range(6)]
            wanted = cover_of(numbers_of(spans))
            for _ in range(5):
                chance.shuffle(spans)
                cover = []
                for span in spans:
                    cover = with_span(cover, span)
                self.assertEqual(cover, wanted, spans)

    def test_lists_of_tuples_and_new_ones(self):
        for span in [(0, 4), (8, 16), (9, 10), (16, 24), (100, 101)]:
            cover = [(8, 16), (24, 32)]
            told = with_span(cover, span)
            self.assertIs(type(told), list)
            self.assertTrue(all(type(one) is tuple for one in told))
            self.assertIsNot(told, cover)
            wanted = list(told)
            told.clear()
            self.assertEqual(cover, [(8, 16), (24, 32)])
            self.assertEqual(with_span(cover, span), wanted)


class LackingSpans(unittest.TestCase):
    def test_written_out(self):
        cover = [(8, 16), (24, 32)]
        rows = [
            (0, []), (1, [(0, 1)]), (7, [(0, 7)]), (8, [(0, 8)]), (9, [(0, 8)]), (16, [(0, 8)]),
            (17, [(0, 8), (16, 17)]), (24, [(0, 8), (16, 24)]), (25, [(0, 8), (16, 24)]), (32, [(0, 8), (16, 24)]),
            (33, [(0, 8), (16, 24), (32, 33)]), (4000, [(0, 8), (16, 24), (32, 4000)]),
            (None, [(0, 8), (16, 24), (32, None)]),
        ]
        for end, told in rows:
            with self.subTest(end=end):
                self.assertEqual(lacking(cover, end), told)

    def test_from_nought_on(self):
        self.assertEqual(lacking([(0, 8)], 8), [])
        self.assertEqual(lacking([(0, 8)], 4), [])
        self.assertEqual(lacking([(0, 8)], 9), [(8, 9)])
        self.assertEqual(lacking([(0, 8)], None), [(8, None)])
        self.assertEqual(lacking([(0, 8), (16, 24)], None), [(8, 16), (24, None)])

    def test_the_empty_cover(self):
        self.assertEqual(lacking([], None), [(0, None)])
        self.assertEqual(lacking([], 0), [])
        self.assertEqual(lacking([], 1), [(0, 1)])
        self.assertEqual(lacking([], 4000), [(0, 4000)])

    def test_number_by_number(self):
        for cover in all_covers():
            held = numbers_of(cover)
            for end in range(MOST + 4):
                wanted = cover_of(set(range(end)) - held)
                self.assertEqual(lacking(cover, end), wanted, (cover, end))
            high = max(held) + 1 if held else 0
            wanted = cover_of(set(range(high)) - held) + [(high, None)]
            self.assertEqual(lacking(cover, None), wanted, cover)

    def test_new_lists_of_tuples(self):
        cover = [(8, 16), (24, 32)]
        for end in [20, 40, None]:
            told = lacking(cover, end)
            self.assertIs(type(told), list)
            self.assertTrue(all(type(one) is tuple for one in told))
            wanted = list(told)
            told.clear()
            self.assertEqual(cover, [(8, 16), (24, 32)])
            self.assertEqual(lacking(cover, end), wanted)


class Sizes(unittest.TestCase):
    def test_written_out(self):
        for cover, size in [([], 0), ([(0, 1)], 1), ([(8, 16)], 8), ([(8, 16), (24, 27)], 11), ([(0, 4000)], 4000)]:
            self.assertEqual(size_of(cover), size)

    def test_number_by_number(self):
        for cover in all_covers():
            before = list(cover)
            self.assertEqual(size_of(cover), len(numbers_of(cover)))
            self.assertEqual(cover, before)


if __name__ == "__main__":
    unittest.main()
