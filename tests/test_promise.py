"""The promise over the whole program, line by line: by the room, by the post, and by the desk's texts alone."""

import itertools
import random
import unittest

from pieceways.cutting import best, cut, cut_again, least, sent
from pieceways.desk import Desk
from pieceways.errors import WayError
from pieceways.letters import Letter, Piece
from pieceways.post import Post, Road, carry
from pieceways.rooms import Room
from pieceways.texts import shown, shown_letter
from room_model import inside, plain

RULES = ["first", "last", "refuse"]
OUTS = ["oldest", "widest", "own"]
AGAINS = ["fresh", "rest"]
WAYS = list(itertools.product(RULES, OUTS, AGAINS))
KEYS = [(7, "ann", "bob"), (8, "ann", "bob"), (7, "anna", "bob"), (7, "ann", "bo"), (7, "bob", "ann"), (77, "a", "b")]


class PromiseCase(unittest.TestCase):
    def setUp(self):
        self.chance = random.Random(21)

    def some_bytes(self, count):
        return [self.chance.randrange(256) for _ in range(count)]

    def some_letter(self, key=KEYS[0], keep=False):
        length = self.chance.choice([1, 7, 8, 9, 40, 41, self.chance.randrange(1, 200)])
        return Letter(*key, self.some_bytes(length), keep)

    def some_widths(self):
        return [self.chance.randrange(8, 70) for _ in range(self.chance.randrange(1, 5))]

    def cut_again_by_chance(self, pieces):
        return [part for piece in pieces for part in cut_again(piece, self.chance.randrange(8, 50))]

    def some_pieces(self, letter):
        """All pieces of a letter, by one or several ways to cut it, in any order, some twice or more."""
        pieces = sent(letter, self.some_widths())
        if self.chance.random() < 0.5:
            pieces += best(letter, self.some_widths())
        if self.chance.random() < 0.5:
            pieces += self.cut_again_by_chance(cut(letter, self.chance.randrange(8, 90)))
        pieces += self.chance.choices(pieces, k=self.chance.randrange(6))
        self.chance.shuffle(pieces)
        return pieces


class Whole(PromiseCase):
    """The letter, just as it was, when the last lacking byte comes, and never sooner."""

    def check_row(self, room, letter, pieces):
        # The last byte comes in a piece with more False alone, so the END is known where all bytes came.
        seen = set()
        told = 0
        for time, piece in enumerate(pieces):
            events = [plain(event) for event in room.come(time, piece)]
            if room.again == "rest" and told > 0:
                self.assertEqual(events, [("late", letter.key())])
                continue
            seen |= set(range(piece.at, piece.end()))
            if len(seen) < len(letter.body):
                self.assertEqual(events, [])
                continue
            self.assertEqual(events, [("whole", letter.key(), letter.body, False)])
            told += 1
            # By "fresh", what comes again behind that begins anew.
            seen = set()
        self.assertGreaterEqual(told, 1)

    def test_any_order_doubled_to_a_room_of_any_rule(self):
        for rule, out, again in WAYS * 8:
            letter = self.some_letter()
            pieces = self.some_pieces(letter)
            with self.subTest(rule=rule, out=out, again=again):
                self.check_row(Room(rule, len(pieces) + 1, len(letter.body) + 1, out, again), letter, pieces)

    def test_by_the_desk_s_texts_alone(self):
        for rule, out, again in WAYS * 4:
            letter = self.some_letter()
            desk = Desk()
            widths = ",".join(str(width) for width in self.some_widths())
            texts = desk.say(f"sent {widths} {shown_letter(letter)}").split("; ")
            narrow = self.chance.randrange(8, 40)
            texts = [part for text in texts for part in desk.say(f"again {narrow} {text}").split("; ")]
            texts += desk.say(f"cut {self.chance.randrange(8, 40)} {shown_letter(letter)}").split("; ")
            self.chance.shuffle(texts)
            self.assertEqual(desk.say(f"room {rule} {len(texts) + 1} {len(letter.body) + 1} {out} {again}"), "ok")
            answers = [desk.say(f"come {time} {text}") for time, text in enumerate(texts)]
            self.assertIn("whole " + shown_letter(letter), answers)
            first = answers.index("whole " + shown_letter(letter))
            self.assertEqual(answers[:first], ["ok"] * first)
            self.assertEqual(desk.say("; ".join(["judge " + rule] + texts)), "whole " + bytes(letter.body).hex())

    def test_keep_is_false_in_what_is_told(self):
        for rule, out, again in WAYS:
            letter = self.some_letter(keep=True)
            room = Room(rule, 10, 4000, out, again)
            events = room.come(0, cut(letter, 5000)[0])
            self.assertTrue(events[0][1].is_like(Letter(*letter.key(), letter.body, False)))
            self.assertIs(letter.keep, True)

    def test_over_the_post(self):
        for rule, out, again in WAYS * 3:
            post = Post()
            for name in ["a", "b", "c"]:
                post.build(name, Road(self.some_widths(), self.chance.randrange(6)))
            letters = [self.some_letter(key) for key in KEYS]
            for time, letter in enumerate(letters):
                post.send(time, letter, self.chance.randrange(8, 90), self.chance.choices(["a", "b", "c"], k=4))
            room = Room(rule, 100, 4000, out, again)
            events = []
            for time in range(5, 15):
                events += carry(post, room, time)
            self.assertEqual(len(events), len(letters))
            told = sorted([plain(event) for event in events])
            self.assertEqual(told, sorted([("whole", letter.key(), letter.body, False) for letter in letters]))

    def test_the_greatest_letter(self):
        letter = Letter(*KEYS[0], self.some_bytes(4000))
        pieces = sent(letter, [1500, 68, 8])
        self.chance.shuffle(pieces)
        for rule in RULES:
            room = Room(rule, 1000, 4000, "own", "rest")
            for time, piece in enumerate(pieces[:-1]):
                self.assertEqual(room.come(time, piece), [])
            self.assertEqual(plain(room.come(600, pieces[-1])[0]), ("whole", letter.key(), letter.body, False))


class KeysNeverMix(PromiseCase):
    def test_bytes_of_unlike_keys(self):
        told = []
        for rule, out, again in WAYS * 3:
            pieces = []
            for place, key in enumerate(KEYS):
                letter = Letter(*key, [place] * self.chance.randrange(1, 80))
                pieces += sent(letter, self.some_widths()) * 2
            self.chance.shuffle(pieces)
            room = Room(rule, self.chance.choice([5, 50, 500]), self.chance.choice([60, 200, 1000]), out, again)
            for time, piece in enumerate(pieces):
                told += [event[1] for event in room.come(time, piece) if event[0] == "whole"]
        self.assertGreater(len(told), 100)
        for letter in told:
            self.assertEqual(set(letter.body), {KEYS.index(letter.key())})


class Overlaps(PromiseCase):
    def standing_by(self, rule, rows, numbers):
        """What stands at each number: the first or the last that came there."""
        told = {}
        for at, body in rows:
            for place, byte in enumerate(body):
                if rule == "last" or at + place not in told:
                    told[at + place] = byte
        return [told[number] for number in range(numbers)]

    def test_which_bytes_stand(self):
        for rule in ["first", "last"]:
            for _ in range(60):
                rows = []
                room = Room(rule, 100, 4000, self.chance.choice(OUTS), "fresh")
                for _ in range(self.chance.randrange(1, 8)):
                    at = 8 * self.chance.randrange(4)
                    rows.append((at, self.some_bytes(8 * self.chance.randrange(1, 5 - at // 8))))
                rows.append((0, self.some_bytes(32)))
                for at, body in rows:
                    self.assertEqual(room.come(3, Piece(*KEYS[0], at, body, True)), [])
                rows.append((24, self.some_bytes(12)))
                events = room.come(4, Piece(*KEYS[0], 24, rows[-1][1], False))
                body = self.standing_by(rule, rows, 36)
                self.assertEqual([plain(event) for event in events], [("whole", KEYS[0], body, False)])

    def test_or_all_is_let_go(self):
        for place in range(16):
            body = list(range(16))
            body[place] = 99
            room = Room("refuse", 100, 4000, "own", "rest")
            self.assertEqual(room.come(0, Piece(*KEYS[0], 0, list(range(16)), True)), [])
            self.assertEqual(room.come(0, Piece(*KEYS[0], 0, body, True)), [("gone", KEYS[0], "unlike")])
            self.assertEqual((room.kept(), room.bytes_kept()), ([], 0))


class SpaceAndWaits(PromiseCase):
    """Pieces of letters of one kind, so that none is strange or unlike; what each key has is written down beside."""

    def check_waits(self, room, begun, events, time):
        over = sorted((since, key) for key, since in begun.items() if since + room.wait <= time)
        self.assertEqual([event[1] for event in events if event[-1] == "wait"], [key for since, key in over])
        self.assertEqual(events[:len(over)], [("gone", key, "wait") for since, key in over])
        for key in room.kept():
            self.assertLess(time, room.since(key) + room.wait)

    def wanted_out(self, room, begun, taken, own):
        """What is to be let go, with the piece taken: the first by its rule, and no more than needed."""
        if sum(len(numbers) for numbers in taken.values()) <= room.space:
            return []
        if room.out == "own" or len(taken[own]) > room.space:
            return [own]
        left = sorted(key for key in taken if key != own)
        left.sort(key=lambda key: begun[key] if room.out == "oldest" else -len(taken[key]))
        for count in range(1, len(left) + 1):
            if sum(len(taken[key]) for key in left[count:] + [own]) <= room.space:
                return left[:count]

    def one_coming(self, room, begun, taken, time, piece):
        events = room.come(time, piece)
        self.check_waits(room, begun, events, time)
        for key in [event[1] for event in events if event[-1] == "wait"]:
            begun.pop(key)
            taken.pop(key)
        rest = [event for event in events if event[-1] != "wait"]
        own = piece.key()
        if rest == [("late", own)]:
            return
        begun.setdefault(own, time)
        taken.setdefault(own, set()).update(range(piece.at, piece.end()))
        if len(taken[own]) == 41:
            self.assertEqual([plain(event) for event in rest], [("whole", own, [5] * 41, False)])
            gone = [own]
        else:
            gone = self.wanted_out(room, begun, taken, own)
            self.assertEqual(rest, [("gone", key, "room") for key in gone])
        for key in gone:
            begun.pop(key)
            taken.pop(key)

    def test_by_each_rule(self):
        for rule, out, again in WAYS * 3:
            room = Room(rule, self.chance.choice([3, 8, 30]), self.chance.choice([10, 40, 100]), out, again)
            begun = {}
            taken = {}
            time = 0
            for _ in range(80):
                time += self.chance.choice([0, 0, 1, 2])
                letter = Letter(*self.chance.choice(KEYS), [5] * 41)
                piece = self.chance.choice(cut(letter, self.chance.choice([8, 16, 24])))
                self.one_coming(room, begun, taken, time, piece)
                self.assertLessEqual(room.bytes_kept(), room.space)
                self.assertEqual(room.bytes_kept(), sum(len(numbers) for numbers in taken.values()))
                self.assertEqual({key: room.since(key) for key in room.kept()}, begun)

    def test_by_the_desk_s_texts_alone(self):
        for rule, out, again in WAYS:
            desk = Desk()
            desk.say(f"room {rule} 9 40 {out} {again}")
            time = 0
            for _ in range(60):
                time += self.chance.choice([0, 1, 2])
                letter = Letter(*self.chance.choice(KEYS), [5] * 41)
                desk.say(f"come {time} {shown(self.chance.choice(cut(letter, 16)))}")
                self.assertLessEqual(int(desk.say("bytes")), 40)
                ends = desk.say("ends")
                self.assertTrue(ends == "none" or time < int(ends) <= time + 9)
                self.assertEqual(ends == "none", desk.say("kept") == "none")
            desk.say(f"come {time} {shown(Piece(1, 'zoe', 'zoe', 0, [1] * 8, True))}")
            kept = desk.say("kept").split("; ")
            answer = desk.say(f"tick {time + 9}")
            self.assertEqual(sorted(answer.split("; ")), sorted(f"gone {key} wait" for key in kept))
            self.assertEqual((desk.say("kept"), desk.say("bytes")), ("none", "0"))


class LeastOverARoad(PromiseCase):
    def test_reached_and_never_fewer(self):
        for _ in range(150):
            letter = self.some_letter()
            widths = self.some_widths()
            told = least(len(letter.body), widths)
            post = Post()
            post.build("a", Road(widths, 0))
            self.assertEqual(post.send(0, letter, min(widths), ["a"]), told)
            self.assertEqual(post.on_the_way(), told)
            for width in [8, 15, 16, 40, 5000, self.chance.randrange(8, 200)]:
                post.fetch(0)
                post.send(0, letter, width, ["a"])
                self.assertGreaterEqual(post.on_the_way(), told)
            desk = Desk()
            listed = ",".join(str(width) for width in widths)
            self.assertEqual(desk.say(f"least {len(letter.body)} {listed}"), str(told))
            self.assertEqual(len(desk.say(f"best {listed} {shown_letter(letter)}").split("; ")), told)


class NothingElseChanges(PromiseCase):
    def test_nothing_that_is_handed_in_is_changed(self):
        for rule, out, again in WAYS:
            letter = self.some_letter()
            pieces = self.some_pieces(letter)
            before = inside([letter, pieces])
            room = Room(rule, 10, 50, out, again)
            for time, piece in enumerate(pieces):
                room.come(time, piece)
                shown(piece)
            self.assertEqual(inside([letter, pieces]), before)

    def test_every_refusal_stands_under_the_base(self):
        room = Room("first", 1, 1, "own", "rest")
        post = Post()
        desk = Desk()
        deeds = [
            lambda: Room("first", 1, 1, "own", None), lambda: room.come(None, None), lambda: room.tick(-1),
            lambda: room.come(0, None), lambda: room.lacks(()), lambda: room.since(None), lambda: Road([], 0),
            lambda: post.build("", None), lambda: post.send(-1, None, 8, []), lambda: post.fetch(None),
            lambda: carry(post, room, -1), lambda: desk.say(None), lambda: desk.say("kept"), lambda: desk.say("come 0"),
        ]
        before = inside([room, post, desk])
        for deed in deeds:
            self.assertRaises(WayError, deed)
            self.assertRaises(ValueError, deed)
            self.assertEqual(inside([room, post, desk]), before)


if __name__ == "__main__":
    unittest.main()
