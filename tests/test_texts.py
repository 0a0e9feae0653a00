"""Pieces and letters through their texts and back; what is no text."""

import itertools
import random
import unittest

from pieceways.errors import NoText, WayError
from pieceways.letters import Letter, Piece
from pieceways.texts import read_letter, read_piece, shown, shown_letter
from room_model import inside

# Each sign from the blank to ~, and some that are in no text at all.
SIGNS = [chr(number) for number in range(32, 127)] + ["\n", "\t", "\u00e9", "\u0661", "\uff10", "\u00b2"]
PIECES = [
    (Piece(7, "ann", "bob", 0, [0], False), "7 ann bob 0 . . 00"),
    (Piece(0, "a", "z", 0, [255], False, True), "0 a z 0 . ! ff"),
    (Piece(65535, "abcdefgh", "stuvwxyz", 3992, [1, 16, 171], False), "65535 abcdefgh stuvwxyz 3992 . . 0110ab"),
    (Piece(10, "ann", "bob", 16, [0, 1, 9, 10, 15, 16, 160, 254], True), "10 ann bob 16 + . 0001090a0f10a0fe"),
    (Piece(100, "ann", "bob", 8, [90] * 16, True, True), "100 ann bob 8 + ! " + "5a" * 16),
    (Piece(1, "a", "b", 0, [205] * 4000, False), "1 a b 0 . . " + "cd" * 4000),
]
LETTERS = [
    (Letter(7, "ann", "bob", [0]), "7 ann bob . 00"),
    (Letter(0, "a", "z", [255], True), "0 a z ! ff"),
    (Letter(65535, "abcdefgh", "stuvwxyz", [1, 16, 171]), "65535 abcdefgh stuvwxyz . 0110ab"),
    (Letter(1, "a", "b", [205] * 4000), "1 a b . " + "cd" * 4000),
]
NO_TEXTS = [None, 7, True, False, [], ["7", "a", "b"], ("7 a b 0 . . 00",), ["7 a b 0 . . 00"], {}, {"7": 1},
            Piece(7, "a", "b", 0, [0], False), Letter(7, "a", "b", [0])]


class TextCase(unittest.TestCase):
    def check_refused(self, read, text):
        with self.subTest(read=read.__name__, text=repr(text)[:80]):
            with self.assertRaises(WayError) as caught:
                read(text)
            self.assertIs(type(caught.exception), NoText)

    def check_none_or_itself(self, read, show, text):
        """A text is either refused, or it is just the text of what was read."""
        try:
            thing = read(text)
        except NoText:
            return False
        self.assertEqual(show(thing), text)
        return True


class ThereAndBack(TextCase):
    def test_written_out(self):
        for piece, text in PIECES:
            self.assertEqual(shown(piece), text)
            self.assertIs(type(read_piece(text)), Piece)
            self.assertEqual(inside(read_piece(text)), inside(piece))
        for letter, text in LETTERS:
            self.assertEqual(shown_letter(letter), text)
            self.assertIs(type(read_letter(text)), Letter)
            self.assertEqual(inside(read_letter(text)), inside(letter))

    def test_each_byte(self):
        for byte in range(256):
            text = f"7 a b . {byte:02x}"
            self.assertEqual(shown_letter(Letter(7, "a", "b", [byte])), text)
            self.assertEqual(read_letter(text).body, [byte])
            piece = Piece(7, "a", "b", 8, [byte] * 3, False)
            self.assertEqual(shown(piece), f"7 a b 8 . . {byte:02x}{byte:02x}{byte:02x}")
            self.assertTrue(read_piece(shown(piece)).is_like(piece))

    def test_each_truth_and_many_numbers(self):
        for more, keep in itertools.product([True, False], repeat=2):
            for number in [0, 1, 9, 10, 11, 99, 100, 101, 1000, 10000, 65535]:
                for at in [0, 8, 16, 80, 96, 104, 1000, 3984]:
                    piece = Piece(number, "ann", "bob", at, list(range(8)), more, keep)
                    signs = ("+" if more else ".") + " " + ("!" if keep else ".")
                    self.assertEqual(shown(piece), f"{number} ann bob {at} {signs} 0001020304050607")
                    self.assertEqual(inside(read_piece(shown(piece))), inside(piece))
                letter = Letter(number, "ann", "bob", [1], keep)
                self.assertEqual(shown_letter(letter), f"{number} ann bob {'!' if keep else '.'} 01")
                self.assertEqual(inside(read_letter(shown_letter(letter))), inside(letter))

    def test_many_by_chance(self):
        chance = random.Random(12)
        for _ in range(300):
            number = chance.randrange(65536)
            sender = "".join(chance.choices("abcxyz", k=chance.randrange(1, 9)))
            goal = "".join(chance.choices("abcxyz", k=chance.randrange(1, 9)))
            body = [chance.randrange(256) for _ in range(8 * chance.randrange(1, 9))]
            truths = [chance.random() < 0.5, chance.random() < 0.5]
            piece = Piece(number, sender, goal, 8 * chance.randrange(400), body, *truths)
            self.assertEqual(inside(read_piece(shown(piece))), inside(piece))
            letter = Letter(number, sender, goal, body, chance.random() < 0.5)
            self.assertEqual(inside(read_letter(shown_letter(letter))), inside(letter))

    def test_showing_changes_nothing_and_what_is_read_is_new(self):
        piece = Piece(10, "ann", "bob", 16, [1, 2, 3], False, True)
        before = inside(piece)
        text = shown(piece)
        self.assertEqual(inside(piece), before)
        self.assertIsNot(read_piece(text), read_piece(text))
        read_piece(text).body.clear()
        self.assertEqual(read_piece(text).body, [1, 2, 3])
        letter = Letter(10, "ann", "bob", [1, 2, 3], True)
        before = inside(letter)
        text = shown_letter(letter)
        self.assertEqual(inside(letter), before)
        read_letter(text).body.clear()
        self.assertEqual(read_letter(text).body, [1, 2, 3])


class NoTexts(TextCase):
    def test_what_is_no_text(self):
        for thing in NO_TEXTS:
            self.check_refused(read_piece, thing)
            self.check_refused(read_letter, thing)

    def test_written_out_pieces(self):
        texts = [
            "", " ", "7", "7 a b 0 . .", "7 a b 0 . . ", "7 a b 0 . . 00 ", " 7 a b 0 . . 00", "7  a b 0 . . 00",
            "7 a b 0 . .  00", "7 a b 0 . . 00 00", "7 a b 0 .. 00", "7 a b 0 . . 0", "7 a b 0 . . 000",
            "7 a b 0 . . 0g",
            "7 a b 0 . . AB", "7 a b 0 . . aB", "7 a b 0 . . 0x", "7 a b 0 . . -1", "7 a b 0 . . +1", "7 a b 0 . . 1_",
            "07 a b 0 . . 00", "00 a b 0 . . 00", "7 a b 00 . . 00", "7 a b 08 . . 00", "+7 a b 0 . . 00",
            "-7 a b 0 . . 00",
            "-0 a b 0 . . 00", "7.0 a b 0 . . 00", "1_0 a b 0 . . 00", "x a b 0 . . 00", " a b 0 . . 00",
            "7 a b  . . 00",
            "7 a b +8 . . 00", "7 a b -8 . . 00", "7 a b 8_0 . . 00", "7 a b 1 . . 00", "7 a b 4 . . 00",
            "7 a b 4000 . . 00",
            "65536 a b 0 . . 00", "7 A b 0 . . 00", "7 a B 0 . . 00", "7 a1 b 0 . . 00", "7  b 0 . . 00",
            "7 a  0 . . 00",
            "7 abcdefghi b 0 . . 00", "7 a b 0 ! . 00", "7 a b 0 . + 00", "7 a b 0 + . 00", "7 a b 0 - . 00",
            "7 a b 0 . - 00",
            "7 a b 0 ++ . 0001020304050607", "7 a b 0 . !! 00", "7 a b 0  . 00", "7 a b 0 .  00",
            "7 a b 3992 + . " + "00" * 8,
            "7 a b 0 . . " + "00" * 4001, "7 a b 8 . . " + "00" * 3993, "7 a b 0 + . " + "00" * 4000, "7\ta b 0 . . 00",
            "7 a b 0 . . 00\n", "\n7 a b 0 . . 00", "7\na\nb\n0\n.\n.\n00", "7 a b 0 . . 00;", "7 a b . 00",
            "1" * 5000 + " a b 0 . . 00",
            "7 a b " + "8" * 5000 + " . . 00", "0" * 5000 + " a b 0 . . 00", "\u0667 a b 0 . . 00",
            "\u00b2 a b 0 . . 00",
            "7 \u00e9 b 0 . . 00", "7 a b 0 . . \uff10\uff10", "9999999999999 a b 0 . . 00", "7 a b 0 True . 00",
        ]
        for text in texts:
            self.check_refused(read_piece, text)

    def test_written_out_letters(self):
        texts = [
            "", " ", "7", "7 a b .", "7 a b . ", "7 a b . 00 ", " 7 a b . 00", "7  a b . 00", "7 a b .  00",
            "7 a b . 00 00",
            "7 a b .00", "7 a b . 0", "7 a b . 000", "7 a b . 0g", "7 a b . AB", "7 a b . 0x", "07 a b . 00",
            "00 a b . 00",
            "+7 a b . 00", "-7 a b . 00", "-0 a b . 00", "65536 a b . 00", "7 A b . 00", "7 a1 b . 00", "7  b . 00",
            "7 a  . 00",
            "7 abcdefghi b . 00", "7 a b + 00", "7 a b !! 00", "7 a b  00", "7 a b .! 00", "7 a b . " + "00" * 4001,
            "7 a b . 00\n", "7\ta b . 00", "7 a b 0 . . 00", "1" * 5000 + " a b . 00", "\u0667 a b . 00",
            "7 a b . \uff10\uff10",
            "1_0 a b . 00", "x a b . 00", " a b . 00", "7 a b . 00; 7 a b . 00",
        ]
        for text in texts:
            self.check_refused(read_letter, text)

    def changed_texts(self, text):
        """Each place another sign, left out, doubled; each word left out, doubled, empty, behind two blanks."""
        for place in range(len(text)):
            for sign in SIGNS:
                yield text[:place] + sign + text[place + 1:]
                yield text[:place] + sign + text[place:]
            yield text[:place] + text[place + 1:]
        words = text.split(" ")
        for place in range(len(words)):
            word = words[place]
            for between in [[], [""], ["", ""], [word, word], [word.upper()], ["0" + word], ["-" + word]]:
                yield " ".join(words[:place] + between + words[place + 1:])
        for between in ["  ", "\t", "\n", ",", "", " ,"]:
            yield between.join(words)
        for sign in SIGNS:
            yield text + sign

    def check_changed(self, read, show, text, good):
        read_ones = 0
        for changed in self.changed_texts(text):
            read_ones += self.check_none_or_itself(read, show, changed)
        # Other names, bytes and numbers are texts of other things, but not all is let by.
        self.assertGreaterEqual(read_ones, good)

    def test_each_place_of_a_text_changed(self):
        for text in ["7 ann bob 16 . ! 0af3", "65535 a z 3984 + . 0123456789abcdef", "0 abcdefgh b 0 . . ff"]:
            self.check_changed(read_piece, shown, text, 50)
        for text in ["7 ann bob ! 0af3", "65535 a z . 0123456789abcdef", "0 abcdefgh b . ff", "10 a b . 10"]:
            self.check_changed(read_letter, shown_letter, text, 50)

    def test_words_of_all_kinds(self):
        numbers = ["0", "7", "07", "", "+7", "65536", "x"]
        names = ["a", "", "A", "ab1"]
        signs = [".", "+", "!", "", ".."]
        bodies = ["00", "", "0", "0F", "0001020304050607"]
        good = 0
        for words in itertools.product(numbers, names, names, ["0", "8", "4", ""], signs, signs, bodies):
            fits = words[0] in ["0", "7"] and words[1:3] == ("a", "a") and words[3] in ["0", "8"]
            fits = fits and words[4] in [".", "+"] and words[5] in [".", "!"] and words[6] in ["00", "0001020304050607"]
            fits = fits and (words[4] == "." or words[6] != "00")
            self.assertEqual(self.check_none_or_itself(read_piece, shown, " ".join(words)), fits, words)
            good += fits
        self.assertEqual(good, 24)


if __name__ == "__main__":
    unittest.main()
