"""The room against a plain model, over drawn rows of comings and ticks."""

import random
import unittest

from pieceways.letters import Letter, Piece
from pieceways.rooms import Room
from room_model import RoomModel, plain

RULES = ["first", "last", "refuse"]
OUTS = ["oldest", "widest", "own"]
AGAINS = ["fresh", "rest"]
KEYS = [(7, "ann", "bob"), (7, "ann", "cy"), (7, "bob", "ann"), (10, "ann", "bob"), (9, "zoe", "a"), (65535, "a", "a")]
BODY = [(17 * number + 3) % 251 for number in range(96)]


class Drawn:
    """What the rows are drawn from: how many keys, how long the letters, how often a byte is another one."""

    def __init__(self, seed, keys=4, most=5, unlike=0.01, steps=(0, 0, 1, 2)):
        self.chance = random.Random(seed)
        self.keys = KEYS[:keys]
        self.most = most
        self.unlike = unlike
        self.steps = steps

    def piece(self):
        chance = self.chance
        key = chance.choice(self.keys)
        # Most last pieces of a key end at one number, so that letters become whole.
        last = 8 * (self.most - 1) + 1 + key[0] % 8
        at = 8 * chance.randrange(self.most)
        more = chance.random() < 0.65 and at < last - 8
        if more:
            end = 8 * chance.randrange(at // 8 + 1, (last + 7) // 8)
        else:
            end = last if chance.random() < 0.85 else chance.randrange(at + 1, last + 9)
        body = [BODY[number] ^ (chance.random() < self.unlike) for number in range(at, end)]
        return Piece(key[0], key[1], key[2], at, body, more, chance.random() < 0.2)

    def step(self):
        return self.chance.choice(self.steps)


class AgainstTheModel(unittest.TestCase):
    def compare(self, room, model):
        self.assertEqual(room.now, model.now)
        self.assertEqual(room.kept(), model.kept())
        self.assertEqual(room.bytes_kept(), model.bytes_kept())
        self.assertLessEqual(room.bytes_kept(), room.space)
        self.assertEqual(room.ends_at(), model.ends_at())
        for key in model.kept():
            self.assertEqual(room.lacks(key), model.lacks(key))
            self.assertEqual(room.since(key), model.since(key))

    def one_step(self, room, model, drawn, time):
        if drawn.chance.random() < 0.1:
            told = room.tick(time)
            wanted = model.tick(time)
        else:
            piece = drawn.piece()
            told = room.come(time, piece)
            wanted = model.come(time, piece)
        self.assertIs(type(told), list)
        self.assertTrue(all(type(event) is tuple for event in told))
        self.assertEqual([plain(event) for event in told], wanted)
        self.compare(room, model)
        return [event[0] if event[0] != "gone" else event[2] for event in wanted]

    def run_row(self, parts, drawn, count, time=0):
        room = Room(*parts)
        model = RoomModel(*parts)
        self.compare(room, model)
        seen = []
        for place in range(count):
            time = time + drawn.step()
            with self.subTest(parts=parts, place=place):
                seen.extend(self.one_step(room, model, drawn, time))
        return seen

    def run_all(self, rules, outs, agains, waits_and_spaces, rows, count, **parts):
        seen = []
        for rule in rules:
            for out in outs:
                for again in agains:
                    for seed in range(rows):
                        for wait, space in waits_and_spaces:
                            drawn = Drawn(seed, **parts)
                            seen.extend(self.run_row((rule, wait, space, out, again), drawn, count))
        return seen

    def test_by_each_rule_and_way_small_waits_and_spaces(self):
        for rule in RULES:
            for out in OUTS:
                for again in AGAINS:
                    pairs = [(1, 40), (3, 30), (6, 50), (12, 75)]
                    seen = self.run_all([rule], [out], [again], pairs, 2, 50)
                    wanted = {"wait", "room", "whole"}
                    wanted |= {"late"} if again == "rest" else set()
                    wanted |= {"unlike"} if rule == "refuse" else {"strange"}
                    self.assertEqual(set(seen), wanted, (rule, out, again))

    def test_great_waits_and_spaces(self):
        for wait, space in [(10 ** 6, 10 ** 6), (10 ** 20, 4), (1, 10 ** 20), (10 ** 6, 100), (20, 1), (20, 10 ** 6)]:
            self.run_all(RULES, OUTS, AGAINS, [(wait, space)], 1, 50)

    def test_many_keys_of_few_bytes(self):
        self.run_all(["first"], OUTS, AGAINS, [(9, 24), (30, 41)], 6, 80, keys=6, most=3)

    def test_few_keys_of_many_bytes(self):
        self.run_all(RULES, OUTS, AGAINS, [(15, 60), (40, 90)], 2, 60, keys=2, most=8, unlike=0.004)

    def test_the_same_time_again_and_again(self):
        self.run_all(RULES, OUTS, AGAINS, [(1, 50), (2, 80)], 2, 60, steps=(0, 0, 0, 0, 0, 0, 1))

    def test_times_of_twenty_figures(self):
        for rule in RULES:
            for again in AGAINS:
                for wait in [3, 10 ** 19]:
                    drawn = Drawn(9, steps=(0, 1, 1, 10 ** 18))
                    self.run_row((rule, wait, 60, "oldest", again), drawn, 60, 5 * 10 ** 19)

    def test_a_hundred_keys(self):
        for out in OUTS:
            room = Room("first", 40, 1000, out, "rest")
            model = RoomModel("first", 40, 1000, out, "rest")
            chance = random.Random(11)
            for place in range(400):
                at = chance.choice([0, 8, 16])
                piece = Piece(chance.randrange(100), "ann", "bob", at, [at] * (8 if at < 16 else 3), at < 16)
                told = [plain(event) for event in room.come(place // 4, piece)]
                self.assertEqual(told, model.come(place // 4, piece))
                self.assertEqual((room.kept(), room.bytes_kept()), (model.kept(), model.bytes_kept()))
            self.compare(room, model)


class ManyComings(unittest.TestCase):
    def test_two_thousand_comings_of_long_pieces(self):
        body = [number % 251 for number in range(4000)]
        for rule in RULES:
            room = Room(rule, 10 ** 6, 10 ** 6, "oldest", "fresh")
            pieces = [Piece(1, "a", "b", at, body[at:at + 800], True) for at in range(0, 3200, 8)]
            for time in range(1999):
                self.assertEqual(room.come(time, pieces[time % len(pieces)]), [])
            told = room.come(2000, Piece(1, "a", "b", 3992, body[3992:], False))
            self.assertEqual(told[0][0], "whole")
            self.assertTrue(told[0][1].is_like(Letter(1, "a", "b", body)))


if __name__ == "__main__":
    unittest.main()
