"""The room, written out by hand: waits, lateness, wholeness, rules, space, what is told and what is refused."""

import itertools
import unittest

import spoilt
from pieceways.errors import NoKey, NoPiece, NoRule, NoTime, WayError
from pieceways.letters import Letter, Piece
from pieceways.rooms import Room
from room_model import inside, plain

RULES = ["first", "last", "refuse"]
OUTS = ["oldest", "widest", "own"]
AGAINS = ["fresh", "rest"]
PARTS = ["first", 10, 100, "oldest", "fresh"]
BODY = [(17 * number + 3) % 251 for number in range(64)]
ANN = (7, "ann", "bob")


def part(key, at, end, more, changed=()):
    body = [BODY[number] + (1 if number in changed else 0) for number in range(at, end)]
    return Piece(key[0], key[1], key[2], at, body, more)


def room_of(rule="first", wait=10, space=1000, out="oldest", again="fresh"):
    return Room(rule, wait, space, out, again)


def whole(key, body):
    return ("whole", key, body, False)


def rooms(**parts):
    """A room of each rule, each way of letting go, fresh and rest, but for the parts that are told."""
    for rule, out, again in itertools.product(RULES, OUTS, AGAINS):
        yield room_of(**{"rule": rule, "out": out, "again": again, **parts})


class RoomCase(unittest.TestCase):
    def check_come(self, room, time, piece, *wanted):
        self.assertEqual([plain(event) for event in room.come(time, piece)], list(wanted))
        self.assertEqual(room.now, time)

    def check_tick(self, room, time, *wanted):
        self.assertEqual([plain(event) for event in room.tick(time)], list(wanted))
        self.assertEqual(room.now, time)

    def check_refused(self, refusal, room, deed, *parts):
        before = inside(room)
        with self.subTest(deed=deed.__name__, parts=repr(parts)):
            with self.assertRaises(WayError) as caught:
                deed(*parts)
            self.assertIs(type(caught.exception), refusal)
            self.assertEqual(inside(room), before)


class Made(RoomCase):
    def test_fields(self):
        for parts in itertools.product(RULES, [1, 5, 10 ** 20], [1, 8, 10 ** 20], OUTS, AGAINS):
            room = Room(*parts)
            self.assertEqual((room.rule, room.wait, room.space, room.out, room.again), parts)
            self.assertEqual(room.now, 0)
            self.assertIs(type(room.now), int)

    def test_a_new_room_keeps_nothing(self):
        for room in rooms():
            self.assertEqual(room.kept(), [])
            self.assertEqual(room.bytes_kept(), 0)
            self.assertIsNone(room.ends_at())

    def test_no_rule_for_each_of_the_five_parts(self):
        values = [spoilt.RULES, spoilt.FROM_ONE, spoilt.FROM_ONE, spoilt.OUTS, spoilt.AGAINS]
        for parts in spoilt.with_each_spoilt(PARTS, dict(enumerate(values))):
            with self.subTest(parts=repr(parts)):
                with self.assertRaises(WayError) as caught:
                    Room(*parts)
                self.assertIs(type(caught.exception), NoRule)

    def test_two_rooms_know_nothing_of_one_another(self):
        one = room_of()
        other = room_of()
        self.check_come(one, 5, part(ANN, 0, 8, True))
        self.assertEqual((other.kept(), other.now, other.bytes_kept()), ([], 0, 0))
        self.check_come(other, 3, part(ANN, 8, 9, False))
        self.assertEqual((one.lacks(ANN), other.lacks(ANN)), ([(8, None)], [(0, 8)]))


class Waits(RoomCase):
    def test_end_at_just_t_and_wait(self):
        for wait in [1, 2, 10, 10 ** 19]:
            for first in [0, 1, 7, 10 ** 19]:
                for room in rooms(wait=wait):
                    self.check_come(room, first, part(ANN, 0, 8, True))
                    self.assertEqual(room.ends_at(), first + wait)
                    self.check_tick(room, first + wait - 1)
                    self.assertEqual(room.kept(), [ANN])
                    self.check_tick(room, first + wait, ("gone", ANN, "wait"))
                    self.assertEqual((room.kept(), room.bytes_kept(), room.ends_at()), ([], 0, None))
                    self.check_tick(room, first + wait)

    def test_a_later_time_ends_them_too(self):
        room = room_of()
        self.check_come(room, 3, part(ANN, 0, 8, True))
        self.check_tick(room, 10 ** 20, ("gone", ANN, "wait"))

    def test_the_time_of_the_first_piece_stays(self):
        for room in rooms():
            self.check_come(room, 2, part(ANN, 0, 8, True))
            self.check_come(room, 5, part(ANN, 8, 16, True))
            self.check_come(room, 11, part(ANN, 0, 8, True))
            self.assertEqual((room.since(ANN), room.ends_at()), (2, 12))
            self.check_tick(room, 12, ("gone", ANN, "wait"))

    def test_several_at_one_time_in_the_order_of_t_and_then_of_the_keys(self):
        keys = [(10, "a", "b"), (9, "b", "a"), (9, "a", "z"), (9, "a", "b"), (2, "zoe", "zoe")]
        for order in itertools.permutations(keys, 5):
            room = room_of()
            for place, key in enumerate(order):
                room.come(place // 2, part(key, 0, 8, True))
            wanted = sorted(order[:2]) + sorted(order[2:4]) + [order[4]]
            self.check_tick(room, 20, *[("gone", key, "wait") for key in wanted])

    def test_only_those_that_end(self):
        room = room_of()
        for time, key in [(0, (3, "a", "b")), (1, (2, "a", "b")), (2, (1, "a", "b"))]:
            room.come(time, part(key, 0, 8, True))
        self.check_tick(room, 11, ("gone", (3, "a", "b"), "wait"), ("gone", (2, "a", "b"), "wait"))
        self.assertEqual((room.kept(), room.ends_at()), ([(1, "a", "b")], 12))

    def test_end_ahead_of_the_piece_that_comes(self):
        for room in rooms():
            self.check_come(room, 0, part(ANN, 0, 8, True))
            self.check_come(room, 10, part(ANN, 8, 9, False), ("gone", ANN, "wait"))
            self.assertEqual((room.kept(), room.since(ANN), room.lacks(ANN)), ([ANN], 10, [(0, 8)]))

    def test_end_ahead_of_a_whole_of_the_same_key(self):
        for room in rooms():
            self.check_come(room, 0, part(ANN, 0, 8, True))
            self.check_come(room, 10, part(ANN, 0, 5, False), ("gone", ANN, "wait"), whole(ANN, BODY[:5]))
            self.assertEqual(room.kept(), [])

    def test_end_ahead_of_the_space(self):
        for out in OUTS:
            room = room_of(space=16, out=out)
            self.check_come(room, 0, part((1, "a", "b"), 0, 16, True))
            self.check_come(room, 10, part((2, "a", "b"), 0, 16, True), ("gone", (1, "a", "b"), "wait"))

    def test_what_is_let_go_begins_anew(self):
        room = room_of()
        self.check_come(room, 0, part(ANN, 0, 8, True))
        self.check_tick(room, 10, ("gone", ANN, "wait"))
        self.check_come(room, 15, part(ANN, 8, 9, False))
        self.assertEqual((room.since(ANN), room.lacks(ANN), room.ends_at()), (15, [(0, 8)], 25))
        self.check_come(room, 24, part(ANN, 0, 8, True), whole(ANN, BODY[:9]))

    def test_the_same_time_again(self):
        for room in rooms():
            for time in [0, 4]:
                key = (time, "ann", "bob")
                self.check_tick(room, time)
                self.check_tick(room, time)
                self.check_come(room, time, part(key, 0, 8, True))
                self.check_come(room, time, part(key, 8, 9, False), whole(key, BODY[:9]))
                self.check_tick(room, time)

    def test_ends_at_is_the_least(self):
        room = room_of()
        room.come(3, part((9, "a", "b"), 0, 8, True))
        room.come(5, part((1, "a", "b"), 0, 8, True))
        self.assertEqual(room.ends_at(), 13)
        room.come(6, part((9, "a", "b"), 8, 9, False))
        self.assertEqual(room.ends_at(), 15)


class Late(RoomCase):
    def told(self, again, wait=10):
        room = room_of(again=again, wait=wait)
        self.check_come(room, 5, part(ANN, 0, 9, False), whole(ANN, BODY[:9]))
        return room

    def test_just_below_t_and_wait_and_no_more_at_it(self):
        for time in [5, 6, 14]:
            room = self.told("rest")
            self.check_come(room, time, part(ANN, 0, 9, False), ("late", ANN))
            self.assertEqual((room.kept(), room.bytes_kept()), ([], 0))
        for time in [15, 16, 100]:
            room = self.told("rest")
            self.check_come(room, time, part(ANN, 0, 9, False), whole(ANN, BODY[:9]))

    def test_by_fresh_nothing_is_late(self):
        for time in [5, 6, 14, 15]:
            room = self.told("fresh")
            self.check_come(room, time, part(ANN, 0, 9, False), whole(ANN, BODY[:9]))
            room = self.told("fresh")
            self.check_come(room, time, part(ANN, 0, 8, True))
            self.assertEqual((room.kept(), room.since(ANN)), ([ANN], time))

    def test_from_the_time_it_was_whole_not_from_its_first_piece(self):
        room = room_of(again="rest")
        self.check_come(room, 0, part(ANN, 0, 8, True))
        self.check_come(room, 9, part(ANN, 8, 9, False), whole(ANN, BODY[:9]))
        self.check_come(room, 18, part(ANN, 0, 8, True), ("late", ANN))
        self.check_come(room, 19, part(ANN, 0, 8, True))
        self.assertEqual(room.since(ANN), 19)

    def test_a_late_piece_does_not_lengthen_the_rest(self):
        room = self.told("rest")
        self.check_come(room, 14, part(ANN, 0, 9, False), ("late", ANN))
        self.check_come(room, 15, part(ANN, 0, 9, False), whole(ANN, BODY[:9]))

    def test_the_last_time_counts(self):
        room = self.told("rest")
        self.check_come(room, 15, part(ANN, 0, 9, False), whole(ANN, BODY[:9]))
        self.check_come(room, 24, part(ANN, 0, 9, False), ("late", ANN))
        self.check_come(room, 25, part(ANN, 0, 8, True))

    def test_other_keys_are_not_late(self):
        room = self.told("rest")
        for key in [(8, "ann", "bob"), (7, "anna", "bob"), (7, "ann", "bo"), (7, "bob", "ann")]:
            self.check_come(room, 6, part(key, 0, 9, False), whole(key, BODY[:9]))

    def test_what_is_let_go_does_not_rest(self):
        room = room_of(again="rest", rule="refuse", space=8)
        self.check_come(room, 0, part(ANN, 0, 8, True))
        self.check_tick(room, 10, ("gone", ANN, "wait"))
        self.check_come(room, 10, part(ANN, 0, 8, True))
        self.check_come(room, 11, part(ANN, 0, 8, True, [3]), ("gone", ANN, "unlike"))
        self.check_come(room, 11, part(ANN, 0, 8, True))
        self.check_come(room, 12, part(ANN, 8, 16, True), ("gone", ANN, "room"))
        self.check_come(room, 12, part(ANN, 0, 3, False), whole(ANN, BODY[:3]))
        self.check_come(room, 12, part(ANN, 0, 3, False), ("late", ANN))

    def test_behind_the_waits_that_ended(self):
        room = self.told("rest")
        self.check_come(room, 5, part((9, "a", "b"), 0, 8, True))
        other = room_of(again="rest")
        self.check_come(other, 0, part((9, "a", "b"), 0, 8, True))
        self.check_come(other, 5, part(ANN, 0, 9, False), whole(ANN, BODY[:9]))
        self.check_come(other, 10, part(ANN, 0, 9, False), ("gone", (9, "a", "b"), "wait"), ("late", ANN))

    def test_unlike_and_strange_pieces_are_late_too(self):
        for rule in RULES:
            room = room_of(rule=rule, again="rest")
            self.check_come(room, 0, part(ANN, 0, 9, False), whole(ANN, BODY[:9]))
            self.check_come(room, 1, part(ANN, 0, 24, True, [2]), ("late", ANN))


class WholeLetters(RoomCase):
    def test_at_the_last_lacking_byte_and_never_sooner(self):
        pieces = [part(ANN, 0, 8, True), part(ANN, 8, 24, True), part(ANN, 24, 32, True), part(ANN, 32, 37, False)]
        for order in itertools.permutations(pieces):
            for room in rooms():
                for time, piece in enumerate(order[:-1]):
                    self.check_come(room, time, piece)
                    self.check_come(room, time, piece)
                    self.assertEqual(room.kept(), [ANN])
                self.check_come(room, 5, order[-1], whole(ANN, BODY[:37]))
                self.assertEqual((room.kept(), room.bytes_kept(), room.ends_at()), ([], 0, None))

    def test_one_piece_alone(self):
        for room in rooms():
            for number, length in enumerate([1, 7, 8, 9, 64]):
                key = (number, "ann", "bob")
                self.check_come(room, number, part(key, 0, length, False), whole(key, BODY[:length]))
                self.assertEqual(room.kept(), [])

    def test_a_told_letter_is_a_new_one_without_keep(self):
        for keep in [True, False]:
            piece = Piece(7, "ann", "bob", 0, [1, 2, 3], False, keep)
            room = room_of()
            events = room.come(0, piece)
            self.assertIs(type(events[0][1]), Letter)
            self.assertTrue(events[0][1].is_like(Letter(7, "ann", "bob", [1, 2, 3])))
            self.assertIs(events[0][1].keep, False)
            events[0][1].body.clear()
            self.assertEqual(piece.body, [1, 2, 3])

    def test_by_fresh_it_begins_anew(self):
        room = room_of(again="fresh")
        self.check_come(room, 0, part(ANN, 0, 8, True))
        self.check_come(room, 1, part(ANN, 8, 9, False), whole(ANN, BODY[:9]))
        self.check_come(room, 2, part(ANN, 8, 16, True, [9]))
        self.assertEqual((room.lacks(ANN), room.since(ANN), room.bytes_kept()), ([(0, 8), (16, None)], 2, 8))

    def test_a_room_that_goes_on_keeps_other_keys(self):
        other = (8, "ann", "bob")
        for room in rooms():
            self.check_come(room, 0, part(other, 0, 8, True))
            self.check_come(room, 1, part(ANN, 0, 9, False), whole(ANN, BODY[:9]))
            self.assertEqual((room.kept(), room.bytes_kept(), room.since(other)), ([other], 8, 0))


class Unlikes(RoomCase):
    def test_the_rule_tells_which_bytes_stand(self):
        first = part(ANN, 0, 16, True)
        other = part(ANN, 8, 16, True, [9, 12])
        last = part(ANN, 16, 20, False)
        changed = part(ANN, 0, 20, False, [9, 12]).body
        for out, again in itertools.product(OUTS, AGAINS):
            room = room_of("first", 10, 1000, out, again)
            self.check_come(room, 0, first)
            self.check_come(room, 1, other)
            self.check_come(room, 2, last, whole(ANN, BODY[:20]))
            room = room_of("last", 10, 1000, out, again)
            self.check_come(room, 0, first)
            self.check_come(room, 1, other)
            self.assertEqual(room.bytes_kept(), 16)
            self.check_come(room, 2, last, whole(ANN, changed))
            room = room_of("refuse", 10, 1000, out, again)
            self.check_come(room, 0, first)
            self.check_come(room, 1, other, ("gone", ANN, "unlike"))
            self.assertEqual((room.kept(), room.bytes_kept()), ([], 0))

    def test_by_refuse_nothing_of_it_stays(self):
        room = room_of("refuse")
        self.check_come(room, 0, part(ANN, 0, 8, True))
        self.check_come(room, 1, part(ANN, 0, 16, True, [3]), ("gone", ANN, "unlike"))
        self.check_come(room, 2, part(ANN, 16, 20, False))
        self.assertEqual((room.lacks(ANN), room.since(ANN), room.bytes_kept()), ([(0, 16)], 2, 4))
        self.check_come(room, 3, part(ANN, 0, 16, True), whole(ANN, BODY[:20]))

    def test_by_refuse_the_last_lacking_piece_may_be_unlike(self):
        room = room_of("refuse")
        self.check_come(room, 0, part(ANN, 0, 8, True))
        self.check_come(room, 1, part(ANN, 0, 9, False, [0]), ("gone", ANN, "unlike"))
        self.assertEqual(room.kept(), [])

    def test_strange_by_each_rule(self):
        rows = [
            (part(ANN, 16, 24, False), part(ANN, 24, 32, True), 8),
            (part(ANN, 16, 24, False), part(ANN, 8, 24, True), 8),
            (part(ANN, 16, 24, False), part(ANN, 24, 25, False), 8),
            (part(ANN, 16, 24, False), part(ANN, 8, 16, False), 8),
            (part(ANN, 16, 24, True), part(ANN, 8, 24, False), 8), (part(ANN, 16, 24, True), part(ANN, 0, 5, False), 8),
        ]
        for first, strange, size in rows:
            for room in rooms():
                self.check_come(room, 0, first)
                lacks = room.lacks(ANN)
                if room.rule == "refuse":
                    self.check_come(room, 1, strange, ("gone", ANN, "unlike"))
                    self.assertEqual((room.kept(), room.bytes_kept()), ([], 0))
                else:
                    self.check_come(room, 1, strange, ("strange", ANN))
                    self.assertEqual((room.kept(), room.bytes_kept()), ([ANN], size))
                    self.assertEqual((room.lacks(ANN), room.since(ANN)), (lacks, 0))

    def test_nothing_of_a_strange_piece_is_taken(self):
        for rule in ["first", "last"]:
            room = room_of(rule)
            self.check_come(room, 0, part(ANN, 8, 16, False))
            self.check_come(room, 1, part(ANN, 0, 24, True, [1, 9]), ("strange", ANN))
            self.check_come(room, 2, part(ANN, 0, 8, True), whole(ANN, BODY[:16]))

    def test_a_strange_piece_does_not_end_the_letter(self):
        for rule in ["first", "last"]:
            room = room_of(rule)
            self.check_come(room, 0, part(ANN, 0, 16, True))
            self.check_come(room, 1, part(ANN, 0, 16, False), ("strange", ANN))
            self.check_come(room, 2, part(ANN, 8, 9, False), ("strange", ANN))
            self.assertEqual(room.lacks(ANN), [(16, None)])
            self.check_come(room, 3, part(ANN, 16, 17, False), whole(ANN, BODY[:17]))

    def test_what_was_strange_is_not_after_the_key_was_let_go(self):
        for rule in RULES:
            room = room_of(rule)
            self.check_come(room, 0, part(ANN, 8, 16, False))
            self.check_come(room, 10, part(ANN, 16, 24, True), ("gone", ANN, "wait"))
            self.assertEqual(room.lacks(ANN), [(0, 16), (24, None)])


class Space(RoomCase):
    A = (1, "a", "b")
    B = (2, "a", "b")
    C = (3, "a", "b")

    def filled(self, out, rows, space=40, rule="first"):
        room = room_of(rule, 100, space, out)
        for time, key, end in rows:
            self.check_come(room, time, part(key, 0, end, True))
        return room

    def test_just_as_many_as_space_is_let_by(self):
        for out in OUTS:
            room = self.filled(out, [(0, self.A, 16), (1, self.B, 24)])
            self.assertEqual((room.kept(), room.bytes_kept()), ([self.A, self.B], 40))

    def test_own(self):
        room = self.filled("own", [(0, self.A, 16), (1, self.B, 16)])
        self.check_come(room, 2, part(self.B, 16, 32, True), ("gone", self.B, "room"))
        self.assertEqual((room.kept(), room.bytes_kept()), ([self.A], 16))
        self.check_come(room, 3, part(self.C, 0, 24, True))
        self.check_come(room, 4, part(self.B, 0, 8, True), ("gone", self.B, "room"))
        self.assertEqual((room.kept(), room.bytes_kept()), ([self.A, self.C], 40))

    def test_oldest(self):
        room = self.filled("oldest", [(0, self.B, 8), (1, self.A, 16), (2, self.C, 8)])
        self.check_come(room, 3, part(self.C, 8, 24, True), ("gone", self.B, "room"))
        self.assertEqual((room.kept(), room.bytes_kept()), ([self.A, self.C], 40))
        self.check_come(room, 4, part(self.A, 16, 24, True), ("gone", self.C, "room"))
        self.assertEqual((room.kept(), room.bytes_kept()), ([self.A], 24))

    def test_oldest_by_the_first_piece_not_the_last_one(self):
        room = self.filled("oldest", [(0, self.B, 8), (1, self.A, 16)])
        self.check_come(room, 2, part(self.B, 8, 16, True))
        self.check_come(room, 3, part(self.C, 0, 16, True), ("gone", self.B, "room"))

    def test_oldest_then_the_least_as_sorted(self):
        room = self.filled("oldest", [(5, self.C, 8), (5, self.A, 8), (5, self.B, 8)])
        self.check_come(room, 6, part((0, "z", "z"), 0, 32, True), ("gone", self.A, "room"), ("gone", self.B, "room"))
        self.assertEqual(room.kept(), [(0, "z", "z"), self.C])

    def test_widest(self):
        room = self.filled("widest", [(0, self.A, 8), (1, self.B, 16), (2, self.C, 8)])
        self.check_come(room, 3, part(self.C, 8, 24, True), ("gone", self.B, "room"))
        self.assertEqual((room.kept(), room.bytes_kept()), ([self.A, self.C], 32))

    def test_widest_then_the_least_as_sorted(self):
        room = self.filled("widest", [(0, self.C, 8), (1, self.B, 8), (2, self.A, 8)])
        self.check_come(room, 6, part((0, "z", "z"), 0, 32, True), ("gone", self.A, "room"), ("gone", self.B, "room"))
        self.assertEqual(room.kept(), [(0, "z", "z"), self.C])

    def test_widest_by_bytes_that_stand_each_once(self):
        room = self.filled("widest", [(0, self.A, 16), (1, self.B, 8), (1, self.B, 8), (1, self.B, 8), (1, self.B, 8)])
        self.check_come(room, 3, part(self.C, 0, 24, True), ("gone", self.A, "room"))

    def test_the_own_key_stays_though_it_is_the_oldest_or_the_widest(self):
        for out in ["oldest", "widest"]:
            room = self.filled(out, [(0, self.A, 24), (1, self.B, 8), (2, self.C, 8)])
            self.check_come(room, 3, part(self.A, 24, 32, True), ("gone", self.B, "room"))
            self.assertEqual((room.kept(), room.since(self.A)), ([self.A, self.C], 0))

    def test_one_by_one_and_no_more_than_needed(self):
        keys = [(number, "a", "b") for number in range(5)]
        for out in ["oldest", "widest"]:
            for asked, count in [(8, 1), (16, 2), (24, 3), (32, 4), (40, 5)]:
                room = self.filled(out, [(0, key, 8) for key in keys])
                wanted = [("gone", key, "room") for key in keys[:count]]
                self.check_come(room, 1, part((9, "a", "b"), 0, asked, True), *wanted)
                self.assertEqual((room.bytes_kept(), len(room.kept())), (40, 6 - count))

    def test_a_piece_that_alone_is_more_than_space(self):
        for out in OUTS:
            room = self.filled(out, [(0, self.A, 16)])
            self.check_come(room, 1, part(self.B, 0, 48, True), ("gone", self.B, "room"))
            self.assertEqual((room.kept(), room.bytes_kept()), ([self.A], 16))
            room = room_of("first", 10, 7, out)
            self.check_come(room, 1, part(self.B, 0, 8, True), ("gone", self.B, "room"))
            self.assertEqual((room.kept(), room.bytes_kept(), room.ends_at()), ([], 0, None))

    def test_an_own_key_that_with_the_piece_is_more_than_space(self):
        for out in OUTS:
            room = self.filled(out, [(0, self.A, 8), (1, self.B, 32)])
            self.check_come(room, 2, part(self.B, 32, 48, True), ("gone", self.B, "room"))
            self.assertEqual((room.kept(), room.bytes_kept()), ([self.A], 8))

    def test_an_own_key_that_is_just_the_space_stays(self):
        for out in ["oldest", "widest"]:
            room = self.filled(out, [(0, self.A, 8), (1, self.B, 32)])
            self.check_come(room, 2, part(self.B, 32, 40, True), ("gone", self.A, "room"))
            self.assertEqual((room.kept(), room.bytes_kept()), ([self.B], 40))

    def test_no_space_is_asked_of_what_is_whole(self):
        for out in OUTS:
            room = self.filled(out, [(0, self.A, 24), (1, self.B, 16)])
            self.check_come(room, 2, part(self.A, 24, 41, False), whole(self.A, BODY[:41]))
            self.assertEqual((room.kept(), room.bytes_kept()), ([self.B], 16))
            self.check_come(room, 3, part(self.C, 0, 60, False), whole(self.C, BODY[:60]))
            self.assertEqual(room.kept(), [self.B])

    def test_no_space_is_asked_of_what_is_strange(self):
        for out in OUTS:
            for rule in ["first", "last"]:
                room = room_of(rule, 100, 40, out)
                self.check_come(room, 0, part(self.A, 8, 24, False))
                self.check_come(room, 1, part(self.B, 0, 24, True))
                self.check_come(room, 2, part(self.A, 0, 48, True), ("strange", self.A))
                self.assertEqual((room.kept(), room.bytes_kept()), ([self.A, self.B], 40))

    def test_no_space_is_asked_of_what_is_unlike(self):
        for out in OUTS:
            room = self.filled(out, [(0, self.A, 24), (1, self.B, 16)], rule="refuse")
            self.check_come(room, 2, part(self.A, 0, 48, True, [3]), ("gone", self.A, "unlike"))
            self.assertEqual(room.kept(), [self.B])

    def test_bytes_that_come_again_ask_none(self):
        for rule, out in itertools.product(RULES, OUTS):
            room = self.filled(out, [(0, self.A, 24), (1, self.B, 16)], rule=rule)
            self.check_come(room, 2, part(self.A, 0, 24, True))
            self.check_come(room, 3, part(self.A, 8, 24, True))
            self.check_come(room, 3, part(self.B, 8, 16, True))
            self.assertEqual((room.kept(), room.bytes_kept()), ([self.A, self.B], 40))

    def test_overlaps_count_once(self):
        for rule, out in itertools.product(RULES, OUTS):
            room = self.filled(out, [(0, self.A, 16)], rule=rule)
            self.check_come(room, 1, part(self.A, 8, 24, True))
            self.check_come(room, 1, part(self.A, 32, 40, True))
            self.assertEqual(room.bytes_kept(), 32)
            self.check_come(room, 1, part(self.A, 0, 40, True))
            self.assertEqual(room.bytes_kept(), 40)

    def test_what_was_let_go_begins_anew_later(self):
        room = self.filled("oldest", [(0, self.A, 24), (1, self.B, 16)])
        self.check_come(room, 2, part(self.C, 0, 16, True), ("gone", self.A, "room"))
        self.check_come(room, 3, part(self.A, 24, 25, False))
        self.assertEqual((room.since(self.A), room.lacks(self.A), room.bytes_kept()), (3, [(0, 24)], 33))


class Told(RoomCase):
    def test_kept_is_sorted_as_python_sorts(self):
        keys = [(10, "a", "b"), (9, "b", "a"), (9, "a", "z"), (9, "a", "b"), (100, "a", "a")]
        for order in itertools.permutations(keys):
            room = room_of()
            for key in order:
                room.come(0, part(key, 0, 8, True))
            self.assertEqual(room.kept(), sorted(keys))

    def test_lacks(self):
        room = room_of()
        self.check_come(room, 0, part(ANN, 8, 16, True))
        self.assertEqual(room.lacks(ANN), [(0, 8), (16, None)])
        self.check_come(room, 0, part(ANN, 32, 37, False))
        self.assertEqual(room.lacks(ANN), [(0, 8), (16, 32)])
        self.check_come(room, 0, part(ANN, 0, 8, True))
        self.assertEqual(room.lacks(ANN), [(16, 32)])

    def test_no_key_for_all_else(self):
        room = room_of()
        room.come(0, part((1, "ann", "bob"), 0, 8, True))
        room.come(0, part((0, "ann", "bob"), 0, 8, True))
        room.come(0, part((5, "ann", "bob"), 0, 9, False))
        others = [
            (2, "ann", "bob"), (1, "anna", "bob"), (1, "ann", "bo"), (1, "bob", "ann"), (5, "ann", "bob"),
            (-1, "ann", "bob"),
            (True, "ann", "bob"), (False, "ann", "bob"), ("1", "ann", "bob"), [1, "ann", "bob"], (1, "ann"), (1,), (),
            (1, "ann", "bob", 0), (1, ["ann"], "bob"), (1, "ann", ["bob"]), ([1], "ann", "bob"), (None, "ann", "bob"),
            (1, None, "bob"), (1, "ann", None), (65536, "ann", "bob"), (1, "Ann", "bob"), "1 ann bob", "", 1, True,
            None,
            {}, {1: "ann"}, [], part((1, "ann", "bob"), 0, 8, True),
        ]
        for key in others:
            self.check_refused(NoKey, room, room.lacks, key)
            self.check_refused(NoKey, room, room.since, key)
        self.assertEqual((room.since((1, "ann", "bob")), room.lacks((1, "ann", "bob"))), (0, [(8, None)]))

    def test_no_key_of_what_is_kept_no_more(self):
        room = room_of("refuse", 10, 16, "own")
        room.come(0, part(ANN, 0, 8, True))
        room.tick(10)
        self.check_refused(NoKey, room, room.lacks, ANN)
        self.check_refused(NoKey, room, room.since, ANN)
        room.come(10, part(ANN, 0, 8, True))
        room.come(10, part(ANN, 0, 8, True, [0]))
        self.check_refused(NoKey, room, room.lacks, ANN)
        room.come(10, part(ANN, 0, 24, True))
        self.check_refused(NoKey, room, room.since, ANN)

    def test_asking_changes_nothing(self):
        room = room_of()
        room.come(3, part(ANN, 0, 8, True))
        before = inside(room)
        room.kept(), room.bytes_kept(), room.lacks(ANN), room.since(ANN), room.ends_at()
        self.assertEqual(inside(room), before)

    def test_lists_that_are_told_are_the_asker_s_own(self):
        room = room_of()
        events = room.come(3, part(ANN, 8, 16, True))
        before = inside(room)
        events.append(("gone", ANN, "wait"))
        room.kept().clear()
        room.kept().append((8, "ann", "bob"))
        room.lacks(ANN).clear()
        room.lacks(ANN)[0] = None
        self.assertEqual(inside(room), before)
        self.assertEqual((room.kept(), room.lacks(ANN)), ([ANN], [(0, 8), (16, None)]))
        events = room.tick(4)
        events.append(1)
        self.assertEqual(room.tick(4), [])
        events = room.come(13, part(ANN, 0, 9, False))
        self.assertEqual(len(events), 2)
        events[1][1].body.clear()
        events.clear()
        self.assertEqual([plain(event) for event in room.come(13, part(ANN, 0, 9, False))], [whole(ANN, BODY[:9])])

    def test_a_piece_that_came_is_not_changed_and_not_kept(self):
        for rule in RULES:
            room = room_of(rule)
            body = list(BODY[:8])
            piece = Piece(7, "ann", "bob", 0, body, True)
            before = inside(piece)
            room.come(0, piece)
            room.come(1, part(ANN, 0, 8, True))
            self.assertEqual(inside(piece), before)
            body[0] = 99
            body.append(1)
            self.check_come(room, 2, part(ANN, 8, 9, False), whole(ANN, BODY[:9]))
            self.assertEqual(inside(piece), before)


class Refused(RoomCase):
    def filled(self):
        room = room_of("last", 10, 100, "oldest", "rest")
        room.come(0, part((1, "a", "b"), 0, 8, True))
        room.come(2, part(ANN, 0, 9, False))
        room.come(5, part((2, "a", "b"), 8, 16, True))
        return room

    def test_no_time(self):
        room = self.filled()
        piece = part(ANN, 0, 8, True)
        for time in spoilt.FROM_NOUGHT + [0, 1, 4]:
            self.check_refused(NoTime, room, room.come, time, piece)
            self.check_refused(NoTime, room, room.tick, time)
        new = room_of()
        for time in spoilt.FROM_NOUGHT:
            self.check_refused(NoTime, new, new.come, time, piece)
            self.check_refused(NoTime, new, new.tick, time)

    def test_no_time_ahead_of_no_piece(self):
        room = self.filled()
        for time in spoilt.FROM_NOUGHT + [0, 4]:
            for thing in spoilt.THINGS:
                self.check_refused(NoTime, room, room.come, time, thing)

    def test_no_piece(self):
        room = self.filled()
        for thing in spoilt.THINGS + [Letter(7, "ann", "bob", [1]), Piece, room]:
            for time in [5, 6, 10, 10 ** 19]:
                self.check_refused(NoPiece, room, room.come, time, thing)
        self.assertEqual(room.now, 5)
        self.check_tick(room, 5)

    def test_the_room_goes_on_behind_a_refusal(self):
        room = self.filled()
        self.check_refused(NoPiece, room, room.come, 100, None)
        self.check_refused(NoTime, room, room.tick, 4)
        self.check_come(room, 9, part((1, "a", "b"), 8, 9, False), whole((1, "a", "b"), BODY[:9]))
        self.check_come(room, 11, part(ANN, 0, 9, False), ("late", ANN))


if __name__ == "__main__":
    unittest.main()
