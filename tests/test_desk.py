"""The desk: each row with its answer, each way in which a row is none, and the order of the refusals."""

import random
import unittest

from pieceways.cutting import best, cut, cut_again, least, sent
from pieceways.desk import Desk
from pieceways.errors import NoKey, NoLetter, NoPiece, NoRoom, NoRow, NoRule, NoText, NoTime, NoWidth, TooWide, WayError
from pieceways.letters import Letter, Piece
from pieceways.plain import Lacking, Unlike, Whole, judged
from pieceways.rooms import Room
from pieceways.texts import shown, shown_letter
from room_model import inside

PIECE = "7 a b 0 + . 0001020304050607"
LAST = "7 a b 8 . . 08"
LETTER = "7 a b . 000102030405060708090a0b0c0d0e0f10111213"
KEPT_LETTER = "7 a b ! 000102030405060708090a0b0c0d0e0f10111213"
ROOM = "room first 10 100 oldest fresh"
# One good row of each kind; those behind want a room.
FREE_ROWS = [
    ROOM, "cut 15 " + LETTER, "again 8 " + PIECE, "sent 15,8 " + LETTER, "best 15,8 " + LETTER, "least 20 15,8",
    "judge first; " + PIECE, "judge refuse; " + PIECE + "; " + LAST,
]
ROOM_ROWS = ["come 5 7 a b 8 + . 0001020304050607", "tick 5", "kept", "bytes", "ends", "lacks 7 a b", "since 7 a b"]
NO_NUMBERS = [
    "00", "05", "000000000005", "1000000000000", "9999999999999", "0000000000000", "+5", "-5", "-0", "5.", "5.0", "x",
    "1_0",
    "5x", "x5", "0x5", "\u0665", "\uff15", "\u00b2", "1" * 5000, "5\n", "\n5", "5\t", "a", "five", ";", ",", "5;",
    "None",
]


class DeskCase(unittest.TestCase):
    def desk(self, *rows):
        desk = Desk()
        for row in rows:
            desk.say(row)
        return desk

    def check(self, desk, *rows):
        for row, answer in rows:
            told = desk.say(row)
            self.assertIs(type(told), str)
            self.assertEqual(told, answer, row)

    def check_refused(self, refusal, row, desk=None):
        desk = desk if desk is not None else Desk()
        before = inside(desk)
        with self.subTest(row=repr(row)[:90]):
            with self.assertRaises(WayError) as caught:
                desk.say(row)
            self.assertIs(type(caught.exception), refusal)
            self.assertEqual(inside(desk), before)

    def check_no_row(self, row):
        """No row, with and without a room."""
        self.check_refused(NoRow, row)
        self.check_refused(NoRow, row, self.desk(ROOM, "come 5 " + PIECE))


class RoomRows(DeskCase):
    def test_a_day_at_the_desk(self):
        self.check(
            Desk(),
            ("room first 10 32 oldest rest", "ok"), ("kept", "none"), ("bytes", "0"), ("ends", "none"),
            ("tick 0", "ok"),
            ("come 3 " + PIECE, "ok"), ("kept", "7 a b"), ("bytes", "8"), ("ends", "13"), ("lacks 7 a b", "8-"),
            ("since 7 a b", "3"), ("come 3 6 z y 16 . ! 010203", "ok"), ("kept", "6 z y; 7 a b"), ("bytes", "11"),
            ("lacks 6 z y", "0-16"), ("come 4 10 c d 8 + . 0000000000000000", "ok"), ("lacks 10 c d", "0-8 16-"),
            ("kept", "6 z y; 7 a b; 10 c d"), ("come 5 10 c d 32 . . 00", "ok"), ("lacks 10 c d", "0-8 16-32"),
            ("come 5 10 c d 8 . . 00", "strange 10 c d"), ("come 5 " + LAST, "whole 7 a b . 000102030405060708"),
            ("come 6 " + LAST, "late 7 a b"), ("bytes", "12"), ("ends", "13"), ("tick 12", "ok"),
            ("tick 14", "gone 6 z y wait; gone 10 c d wait"), ("kept", "none"), ("bytes", "0"), ("ends", "none"),
        )

    def test_several_events(self):
        self.check(
            Desk(),
            ("room last 5 16 oldest rest", "ok"), ("come 0 1 a b 0 + . 0000000000000000", "ok"),
            ("come 1 2 a b 0 + . 0000000000000000", "ok"),
            ("come 5 3 a b 0 + . 00000000000000000000000000000000", "gone 1 a b wait; gone 2 a b room"),
            ("come 10 9 a b 0 . ! ff", "gone 3 a b wait; whole 9 a b . ff"), ("come 14 9 a b 0 . . ff", "late 9 a b"),
            ("come 15 9 a b 0 . . fe", "whole 9 a b . fe"),
        )

    def test_each_reason(self):
        self.check(
            Desk(),
            ("room refuse 5 10 own fresh", "ok"), ("come 0 " + PIECE, "ok"),
            ("come 1 7 a b 0 + . 0001020304050608", "gone 7 a b unlike"), ("kept", "none"),
            ("come 1 " + PIECE, "ok"), ("come 2 7 a b 8 + . 0001020304050607", "gone 7 a b room"), ("kept", "none"),
            ("come 2 " + PIECE, "ok"), ("tick 7", "gone 7 a b wait"),
        )

    def test_each_rule_out_and_again(self):
        for rule in ["first", "last", "refuse"]:
            for out in ["oldest", "widest", "own"]:
                for again in ["fresh", "rest"]:
                    desk = Desk()
                    self.check(desk, (f"room {rule} 10 100 {out} {again}", "ok"))
                    self.check(desk, ("come 1 7 a b 0 . . 00", "whole 7 a b . 00"))
                    wanted = "whole 7 a b . 00" if again == "fresh" else "late 7 a b"
                    self.check(desk, ("come 2 7 a b 0 . . 00", wanted))

    def test_numbers_of_twelve_figures(self):
        self.check(
            Desk(),
            ("room first 999999999999 999999999999 oldest fresh", "ok"), ("tick 0", "ok"), ("tick 100000000000", "ok"),
            ("come 999999999999 " + PIECE, "ok"), ("since 7 a b", "999999999999"), ("ends", "1999999999998"),
        )

    def test_a_new_room_keeps_nothing_of_the_one_ahead(self):
        desk = self.desk("room first 10 100 oldest rest", "come 50 " + PIECE, "come 50 8 a b 0 . . 00")
        self.check(
            desk,
            ("room last 20 100 own rest", "ok"), ("kept", "none"), ("bytes", "0"), ("ends", "none"), ("tick 0", "ok"),
            ("come 1 8 a b 0 . . 00", "whole 8 a b . 00"), ("come 2 " + LAST, "ok"), ("lacks 7 a b", "0-8"),
            ("ends", "22"),
        )

    def test_two_desks_know_nothing_of_one_another(self):
        one = self.desk(ROOM, "come 5 " + PIECE)
        self.check_refused(NoRoom, "kept")
        other = self.desk(ROOM)
        self.check(other, ("kept", "none"), ("tick 0", "ok"), ("come 2 " + LAST, "ok"))
        self.check(one, ("since 7 a b", "5"), ("lacks 7 a b", "8-"), ("kept", "7 a b"))
        other.say(ROOM)
        self.check(one, ("kept", "7 a b"))

    def test_asking_changes_nothing(self):
        desk = self.desk(ROOM, "come 5 " + PIECE)
        before = inside(desk)
        for row in ["kept", "bytes", "ends", "lacks 7 a b", "since 7 a b"] + FREE_ROWS[1:]:
            desk.say(row)
            self.assertEqual(inside(desk), before)


class FreeRows(DeskCase):
    def test_written_out(self):
        self.check(
            Desk(),
            ("cut 15 " + LETTER, "7 a b 0 + . 0001020304050607; 7 a b 8 . . 08090a0b0c0d0e0f10111213"),
            ("cut 20 " + LETTER, "7 a b 0 . . 000102030405060708090a0b0c0d0e0f10111213"),
            ("cut 20 " + KEPT_LETTER, "7 a b 0 . ! 000102030405060708090a0b0c0d0e0f10111213"),
            ("cut 8 7 a b . 000000000000000001", "7 a b 0 + . 0000000000000000; 7 a b 8 . . 01"),
            ("again 8 7 a b 16 + . 00010203040506070001020304050607",
             "7 a b 16 + . 0001020304050607; 7 a b 24 + . 0001020304050607"),
            ("again 9 7 a b 16 . ! 000102030405060708", "7 a b 16 . ! 000102030405060708"),
            ("sent 16,15 " + LETTER,
             "7 a b 0 + . 0001020304050607; 7 a b 8 + . 08090a0b0c0d0e0f; 7 a b 16 . . 10111213"),
            ("best 16,15 " + LETTER, "7 a b 0 + . 0001020304050607; 7 a b 8 . . 08090a0b0c0d0e0f10111213"),
            ("sent 5000 " + LETTER, "7 a b 0 . . 000102030405060708090a0b0c0d0e0f10111213"),
            ("least 20 16,15", "2"), ("least 4000 8", "500"), ("least 1 5000,8,15", "1"),
            ("judge first; 7 a b 0 . . 00", "whole 00"), ("judge first; " + PIECE, "lacking 8-"),
            ("judge last; " + LAST, "lacking 0-8"),
            ("judge refuse; " + LAST + "; " + PIECE, "whole 000102030405060708"),
            ("judge refuse; 7 a b 16 + . 0000000000000000; 7 a b 32 . . 00", "lacking 0-16 24-32"),
            ("judge refuse; 7 a b 16 + . 0000000000000000", "lacking 0-16 24-"),
            ("judge refuse; " + PIECE + "; 7 a b 0 + . 0001020304050608", "unlike 7"),
            ("judge refuse; 7 a b 16 . . 00; 7 a b 24 + . 0001020304050608", "unlike 24"),
            ("judge last; " + PIECE + "; 7 a b 0 . . 00", "lacking 8-"),
        )

    def answer_of(self, answer):
        if type(answer) is Whole:
            return "whole " + "".join(f"{byte:02x}" for byte in answer.body)
        if type(answer) is Unlike:
            return f"unlike {answer.at}"
        self.assertIs(type(answer), Lacking)
        return "lacking " + " ".join(f"{low}-{'' if high is None else high}" for low, high in answer.spans)

    def test_as_the_functions_tell(self):
        chance = random.Random(13)
        desk = Desk()
        for _ in range(100):
            body = [chance.randrange(256) for _ in range(chance.randrange(1, 90))]
            letter = Letter(chance.randrange(65536), "ann", "bob", body)
            widths = [chance.randrange(8, 60) for _ in range(chance.randrange(1, 21))]
            listed = ",".join(str(width) for width in widths)
            piece = cut(letter, 40)[-1]
            rows = [
                (f"cut {widths[0]} {shown_letter(letter)}", cut(letter, widths[0])),
                (f"again {widths[0]} {shown(piece)}", cut_again(piece, widths[0])),
                (f"sent {listed} {shown_letter(letter)}", sent(letter, widths)),
                (f"best {listed} {shown_letter(letter)}", best(letter, widths)),
            ]
            self.check(desk, *[(row, "; ".join(shown(one) for one in pieces)) for row, pieces in rows])
            self.check(desk, (f"least {len(letter.body)} {listed}", str(least(len(letter.body), widths))))
            pieces = sent(letter, widths)
            chance.shuffle(pieces)
            pieces = pieces[:chance.randrange(1, len(pieces) + 1)]
            other = [chance.randrange(2) * 9 for _ in range(8)]
            pieces.append(Piece(letter.number, "ann", "bob", 0, other, chance.random() < 0.5))
            for rule in ["first", "last", "refuse"]:
                row = "; ".join(["judge " + rule] + [shown(one) for one in pieces])
                self.check(desk, (row, self.answer_of(judged(pieces, rule))))


class NoRows(DeskCase):
    def test_what_is_no_text(self):
        for thing in [None, 7, True, [], ["kept"], ("kept",), {}, {"kept": 1}, Room("first", 1, 1, "own", "rest")]:
            self.check_no_row(thing)

    def test_another_first_word(self):
        rows = [
            "", " ", "  ", "Kept", "KEPT", "keep", "kep", "keptt", "x", "7", "none", "ok", ";", "say kept", "rooms",
            "lack", "whole 7 a b . 00", "first", "kept\n", "kept;", "\tkept", "judge;", "judge\nfirst",
            "cut15 " + LETTER,
        ]
        for row in rows:
            self.check_no_row(row)
        for row in FREE_ROWS + ROOM_ROWS:
            first, blank, rest = row.partition(" ")
            for other in [first.upper(), first + "s", first[:-1], " " + first, "x" + first, ""]:
                self.check_no_row(other + blank + rest)

    def test_words_too_few_too_many_or_parted_otherwise(self):
        for row in [ROOM, "least 20 15,8", "tick 5", "kept", "bytes", "ends", "lacks 7 a b", "since 7 a b"]:
            words = row.split(" ")
            for count in range(1, len(words)):
                self.check_no_row(" ".join(words[:count]))
                self.check_no_row(" ".join(words[:count]) + " ")
            for added in ["x", "5", "", ";", " "]:
                self.check_no_row(row + " " + added)
            for place in range(1, len(words)):
                for between in ["  ", "\t", "\n", "   "]:
                    self.check_no_row(" ".join(words[:place]) + between + " ".join(words[place:]))
                self.check_no_row(" ".join(words[:place] + [""] + words[place + 1:]))
            self.check_no_row(" " + row)
            self.check_no_row(row + " ")

    def test_rows_with_a_text_behind(self):
        for first in ["come 5", "cut 15", "again 8", "sent 15,8", "best 15,8"]:
            word = first.split(" ")[0]
            for row in [word, word + " ", first, first + " ", word + "  "]:
                self.check_no_row(row)
            for row in [word + "  " + PIECE, word + "  5 " + PIECE, word + "   x"]:
                self.check_no_row(row)

    def test_numbers(self):
        rows = [
            "room first {} 100 oldest fresh", "room first 10 {} oldest fresh", "come {} " + PIECE, "tick {}",
            "lacks {} a b",
            "since {} a b", "cut {} " + LETTER, "again {} " + PIECE, "sent {} " + LETTER, "best {} " + LETTER,
            "least {} 15",
            "least 15 {}", "sent 15,{} " + LETTER, "sent {},15 " + LETTER, "sent 15,{},8 " + LETTER,
            "best {},15 " + LETTER,
            "best 15,{} " + LETTER, "least 20 {},15", "least 20 15,{}", "least 20 15,{},8",
        ]
        for row in rows:
            for number in NO_NUMBERS:
                self.check_no_row(row.replace("{}", number))

    def test_widths(self):
        for widths in ["15,", ",15", "15,,8", ",", "15;8", "15,8,", "15.8", "15, 8", "[15]"]:
            self.check_no_row("least 20 " + widths)
            if " " not in widths:
                self.check_no_row(f"sent {widths} {LETTER}")
                self.check_no_row(f"best {widths} {LETTER}")

    def test_widths_are_not_taken_for_one_number(self):
        for row in ["cut 15,8 " + LETTER, "again 15,8 " + PIECE, "come 5,6 " + PIECE, "tick 5,6", "least 5,6 15"]:
            self.check_no_row(row)

    def test_judge(self):
        rows = [
            "judge", "judge ", "judge ; " + PIECE, "judge first; ", "judge first; ; " + PIECE,
            "judge first; " + PIECE + "; ", "judge first; " + PIECE + "; ; " + PIECE, "judge ; ", "judge nothing; ",
        ]
        for row in rows:
            self.check_no_row(row)


class NoTextsAndNoRooms(DeskCase):
    BAD_TEXTS = [
        "x", " ", "  ", "7", PIECE + " ", " " + PIECE, LETTER + " ", " " + LETTER, "7 a b 0 . . 0", "7 a b . 0", "; ",
        ";", "7 A b 0 . . 00",
        "7  a b . 00", "07 a b . 00", "07 a b 0 . . 00", "7 a b 4 . . 00", "7 a b . 00; 7 a b . 00",
        "7 a b 0 . . 00; 7 a b 8 . . 00",
    ]

    def test_no_text(self):
        for text in self.BAD_TEXTS:
            for row in ["cut 15 ", "sent 15 ", "best 15,8 ", "again 15 ", "come 5 "]:
                self.check_refused(NoText, row + text)
                self.check_refused(NoText, row + text, self.desk(ROOM, "come 5 " + PIECE))
        for first in ["cut 15 ", "sent 15 ", "best 15 "]:
            self.check_refused(NoText, first + PIECE)
        for first in ["again 15 ", "come 5 "]:
            self.check_refused(NoText, first + LETTER)

    def test_no_text_of_judge(self):
        for text in ["x", " ", " " + PIECE, PIECE + " ", LETTER, "7 a b 0 . . 0", ";", PIECE + ";", PIECE + ";" + LAST]:
            for row in [f"judge first; {text}", f"judge first; {PIECE}; {text}", f"judge first; {text}; {PIECE}"]:
                self.check_refused(NoText, row)
        self.check_refused(NoText, "judge first;; x")

    def test_no_text_ahead_of_all_but_no_row(self):
        for row in ["cut 7 x", "cut 5001 x", "again 7 x", "sent 7 x", "best 0 x", "judge nothing; x"]:
            self.check_refused(NoText, row)
        self.check_refused(NoText, "judge nothing; " + PIECE + "; x")
        desk = self.desk(ROOM, "come 5 " + PIECE)
        self.check_refused(NoText, "come 4 x", desk)
        self.check_refused(NoText, "come 4 x")
        self.check_refused(NoText, "judge first; " + PIECE + "; 8 a b 0 . . 0", desk)

    def test_no_row_ahead_of_no_text(self):
        for row in ["cut 07 x", "again -1 x", "sent 15, x", "best x x", "come 05 x", "come 1000000000000 x"]:
            self.check_no_row(row)
        self.check_no_row("come  x")
        self.check_no_row("cut  x")
        self.check_no_row("judge first; x; ")
        self.check_no_row("judge ; x")

    def test_no_room(self):
        for row in ROOM_ROWS + ["lacks 70000 a b", "lacks 7 A 1", "since 70000 ; ;", "come 0 " + PIECE, "tick 0"]:
            self.check_refused(NoRoom, row)

    def test_no_room_behind_no_row_and_no_text(self):
        for row in ["tick", "tick 05", "kept ", "lacks 7 a", "since 07 a b", "come 5", "come x " + PIECE]:
            self.check_refused(NoRow, row)
        self.check_refused(NoText, "come 5 x")

    def test_no_room_behind_a_refused_room(self):
        desk = Desk()
        self.check_refused(NoRule, "room nothing 10 100 oldest fresh", desk)
        self.check_refused(NoRoom, "kept", desk)


class OtherRefusals(DeskCase):
    def test_no_rule(self):
        rows = [
            "room nothing 10 100 oldest fresh", "room First 10 100 oldest fresh", "room first 0 100 oldest fresh",
            "room first 10 0 oldest fresh", "room first 10 100 first fresh", "room first 10 100 oldest oldest",
            "room ; 10 100 oldest fresh", "judge nothing; " + PIECE, "judge nothing", "judge First; " + PIECE,
            "judge first;",
            "judge first ; " + PIECE, "judge  first; " + PIECE, "judge first x; " + PIECE, "judge first x", "judge  ",
            "judge ;",
            "judge " + PIECE, "judge nothing; " + PIECE + "; 8 a b 0 . . 00",
        ]
        for row in rows:
            self.check_refused(NoRule, row)
            self.check_refused(NoRule, row, self.desk(ROOM, "come 5 " + PIECE))

    def test_a_refused_room_leaves_the_one_that_is_there(self):
        desk = self.desk(ROOM, "come 5 " + PIECE)
        self.check_refused(NoRule, "room first 0 100 oldest fresh", desk)
        self.check_refused(NoRow, "room first 00 100 oldest fresh", desk)
        self.check(desk, ("kept", "7 a b"), ("since 7 a b", "5"))

    def test_no_piece(self):
        self.check_refused(NoPiece, "judge first")
        self.check_refused(NoPiece, "judge refuse")
        self.check_refused(NoPiece, "judge first; " + PIECE + "; 8 a b 0 . . 00")
        self.check_refused(NoPiece, "judge last; 7 a b 0 . . 00; 7 a c 0 . . 00")

    def test_no_time(self):
        desk = self.desk(ROOM, "come 5 " + PIECE)
        for row in ["tick 4", "tick 0", "come 4 " + LAST, "come 0 " + PIECE]:
            self.check_refused(NoTime, row, desk)
        self.check(desk, ("tick 5", "ok"), ("come 5 " + LAST, "whole 7 a b . 000102030405060708"))

    def test_no_key(self):
        desk = self.desk(ROOM, "come 5 " + PIECE)
        keys = ["8 a b", "7 b a", "7 a c", "7 A b", "7 a 1", "70000 a b", "999999999999 a b", "0 a b", "7 ; ,"]
        for key in keys + ["7 abcdefghi b"]:
            self.check_refused(NoKey, "lacks " + key, desk)
            self.check_refused(NoKey, "since " + key, desk)

    def test_no_width_too_wide_and_no_letter(self):
        rows = [
            "cut {} " + LETTER, "cut {} " + KEPT_LETTER, "again {} " + PIECE, "sent {} " + LETTER,
            "best {} " + KEPT_LETTER, "sent 15,{} " + KEPT_LETTER, "best {},15 " + LETTER, "least 20 {}",
            "least 0 {}", "least 20 15,{}",
        ]
        for width in ["7", "0", "5001", "999999999999"]:
            for row in rows:
                self.check_refused(NoWidth, row.replace("{}", width))
        many = ",".join(["15"] * 21)
        for row in [f"sent {many} {LETTER}", f"best {many} {LETTER}", f"least 20 {many}"]:
            self.check_refused(NoWidth, row)
        for row in ["cut 19 " + KEPT_LETTER, "sent 20,19 " + KEPT_LETTER, "best 20,19 " + KEPT_LETTER]:
            self.check_refused(TooWide, row)
        self.check_refused(TooWide, "again 8 7 a b 0 . ! 000102030405060708")
        for row in ["least 0 15", "least 4001 15", "least 999999999999 15,8"]:
            self.check_refused(NoLetter, row)

    def test_twenty_widths(self):
        many = ",".join(["15"] * 20)
        self.assertEqual(Desk().say(f"least 20 {many}"), "2")

    def test_a_refused_row_changes_nothing_for_those_behind(self):
        desk = self.desk("room refuse 10 100 oldest rest", "come 5 " + PIECE)
        self.check_refused(NoTime, "tick 4", desk)
        self.check_refused(NoText, "come 50 x", desk)
        self.check_refused(NoRow, "come 50", desk)
        self.check_refused(NoRow, "tick 050", desk)
        self.check_refused(NoKey, "lacks 8 a b", desk)
        self.check(
            desk,
            ("ends", "15"), ("come 14 " + LAST, "whole 7 a b . 000102030405060708"), ("come 15 " + LAST, "late 7 a b"),
        )


class AgainstARoom(DeskCase):
    """The desk over drawn rows, against a room that is asked by hand."""

    def event_text(self, event):
        if event[0] == "whole":
            return "whole " + shown_letter(event[1])
        return " ".join([event[0], *[str(part) for part in event[1]], *event[2:]])

    def check_asked(self, desk, room):
        kept = room.kept()
        ends = room.ends_at()
        rows = [
            ("kept", "; ".join(f"{key[0]} {key[1]} {key[2]}" for key in kept) or "none"),
            ("bytes", str(room.bytes_kept())),
            ("ends", "none" if ends is None else str(ends)),
        ]
        for key in kept:
            spans = " ".join(f"{low}-{'' if high is None else high}" for low, high in room.lacks(key))
            rows.append((f"lacks {key[0]} {key[1]} {key[2]}", spans))
            rows.append((f"since {key[0]} {key[1]} {key[2]}", str(room.since(key))))
        self.check(desk, *rows)

    def test_drawn_rows(self):
        chance = random.Random(14)
        for rule in ["first", "last", "refuse"]:
            for out in ["oldest", "widest", "own"]:
                for again in ["fresh", "rest"]:
                    room = Room(rule, 6, 40, out, again)
                    desk = self.desk(f"room {rule} 6 40 {out} {again}")
                    time = 0
                    for _ in range(60):
                        time += chance.choice([0, 0, 1, 2])
                        at = 8 * chance.randrange(3)
                        body = [chance.random() < 0.02 and 1 or 0 for _ in range(8 if at < 16 else 3)]
                        piece = Piece(chance.randrange(4), "ann", "bob", at, body, at < 16)
                        wanted = "; ".join(self.event_text(event) for event in room.come(time, piece)) or "ok"
                        self.check(desk, (f"come {time} {shown(piece)}", wanted))
                        self.check_asked(desk, room)


if __name__ == "__main__":
    unittest.main()
