"""Letters cut over roads and read again: what comes in is what went out, whatever the order."""

import random
import unittest

from pieceways.cutting import best, cut, sent
from pieceways.letters import Letter
from pieceways.plain import Lacking, Whole, judged, read_all

RULES = ["first", "last", "refuse"]


class OverRoads(unittest.TestCase):
    def setUp(self):
        self.chance = random.Random(8)

    def some_letter(self, number=7):
        length = self.chance.choice([1, 7, 8, 9, 40, 41, self.chance.randrange(1, 400)])
        return Letter(number, "ann", "bob", [self.chance.randrange(256) for _ in range(length)])

    def some_road(self):
        return [self.chance.randrange(8, 120) for _ in range(self.chance.randrange(1, 6))]

    def in_any_order(self, pieces):
        mixed = pieces + self.chance.choices(pieces, k=self.chance.randrange(5))
        self.chance.shuffle(mixed)
        return mixed

    def check_whole(self, pieces, letter):
        for rule in RULES:
            answer = judged(pieces, rule)
            self.assertIs(type(answer), Whole)
            self.assertEqual(answer.body, letter.body)

    def check_without(self, pieces, left_out):
        span = (left_out.at, left_out.end() if left_out.more else None)
        others = [piece for piece in pieces if piece is not left_out]
        if not others:
            return
        for rule in RULES:
            answer = judged(self.in_any_order(others), rule)
            self.assertIs(type(answer), Lacking)
            self.assertEqual(answer.spans, [span])

    def test_whole_in_any_order_and_some_twice(self):
        for _ in range(300):
            letter = self.some_letter()
            widths = self.some_road()
            with self.subTest(length=len(letter.body), widths=widths):
                self.check_whole(self.in_any_order(sent(letter, widths)), letter)
                self.check_whole(self.in_any_order(best(letter, widths)), letter)
                self.check_whole(self.in_any_order(cut(letter, widths[0])), letter)

    def test_over_several_roads_at_once(self):
        for _ in range(200):
            letter = self.some_letter()
            pieces = sent(letter, self.some_road()) + sent(letter, self.some_road()) + best(letter, self.some_road())
            self.check_whole(self.in_any_order(pieces), letter)

    def test_lacking_just_what_is_left_out(self):
        for _ in range(60):
            letter = self.some_letter()
            pieces = sent(letter, self.some_road())
            for left_out in pieces:
                self.check_without(pieces, left_out)

    def test_never_sooner_than_the_last_lacking_byte(self):
        for _ in range(60):
            letter = self.some_letter()
            pieces = sent(letter, self.some_road())
            self.chance.shuffle(pieces)
            for count in range(1, len(pieces)):
                self.assertIs(type(judged(pieces[:count], "refuse")), Lacking)

    def test_the_greatest_letter(self):
        letter = Letter(7, "ann", "bob", [self.chance.randrange(256) for _ in range(4000)])
        for widths in [[8], [5000], [1500, 576, 68, 1500]]:
            pieces = sent(letter, widths)
            self.check_whole(self.in_any_order(pieces), letter)
            self.check_without(pieces, pieces[0])
            self.check_without(pieces, pieces[-1])

    def test_several_letters_mixed(self):
        for _ in range(60):
            letters = [self.some_letter(number) for number in range(4)]
            pieces = [piece for letter in letters for piece in sent(letter, self.some_road())]
            for rule in RULES:
                told = read_all(self.in_any_order(pieces), rule)
                self.assertEqual([key for key, answer in told], [letter.key() for letter in letters])
                self.assertEqual([answer.body for key, answer in told], [letter.body for letter in letters])


if __name__ == "__main__":
    unittest.main()
