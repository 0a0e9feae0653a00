"""Roads and the post: what is sent, lost, refused, what arrives and when; and carry, against the deeds by hand."""

import copy
import itertools
import random
import unittest

import spoilt
from pieceways.cutting import cut, cut_again
from pieceways.errors import NoLetter, NoRoad, NoTime, NoWidth, TooWide, WayError
from pieceways.letters import Letter, Piece
from pieceways.post import Post, Road, carry
from pieceways.rooms import Room
from room_model import inside, plain


def letter_of(length, number=7, keep=False):
    return Letter(number, "ann", "bob", [(17 * place + number) % 251 for place in range(length)], keep)


def post_of(**roads):
    post = Post()
    for name, road in roads.items():
        post.build(name, road)
    return post


def spans(told):
    """What fetch told: when it arrived, and where it stands."""
    return [(time, piece.at, piece.end()) for time, piece in told]


class PostCase(unittest.TestCase):
    def check_refused(self, refusal, post, deed, *parts):
        before = inside([post, list(parts)])
        with self.subTest(deed=deed.__name__, parts=repr(parts)[:90]):
            with self.assertRaises(WayError) as caught:
                deed(*parts)
            self.assertIs(type(caught.exception), refusal)
            self.assertEqual(inside([post, list(parts)]), before)


class Roads(unittest.TestCase):
    def check_refused(self, parts):
        with self.subTest(parts=repr(parts)[:90]):
            with self.assertRaises(WayError) as caught:
                Road(*parts)
            self.assertIs(type(caught.exception), NoRoad)

    def test_fields(self):
        for widths in [[8], [5000], [15, 8, 15], [8] * 20]:
            for delay in [0, 1, 10 ** 20]:
                for lost in [[], [0], [5, 0, 5, 3], [10 ** 20]]:
                    road = Road(widths, delay, lost)
                    self.assertEqual((road.widths, road.delay, road.lost), (widths, delay, lost))
                    road = Road(widths, delay, lost=lost)
                    self.assertEqual(road.lost, lost)

    def test_without_lost_the_field_is_a_list_too(self):
        for road in [Road([8], 0), Road([8], 0, None), Road([8], 0, lost=None)]:
            self.assertEqual(road.lost, [])
            self.assertIs(type(road.lost), list)
        self.assertIsNot(Road([8], 0).lost, Road([8], 0).lost)

    def test_lists_of_its_own(self):
        widths = [15, 8]
        lost = [1, 2]
        road = Road(widths, 3, lost)
        widths.append(7)
        lost.clear()
        self.assertEqual((road.widths, road.lost), ([15, 8], [1, 2]))
        road.widths.append(9)
        road.lost.append(9)
        self.assertEqual((widths, lost), ([15, 8, 7], []))

    def test_no_road(self):
        for widths in spoilt.width_lists():
            self.check_refused([widths, 0])
            self.check_refused([widths, 0, [1]])
        for delay in spoilt.FROM_NOUGHT:
            self.check_refused([[8], delay])
            self.check_refused([[8], delay, [1]])
        for value in spoilt.FROM_NOUGHT:
            for lost in [[value], [0, value], [value, 0], [1, value, 2]]:
                self.check_refused([[8], 0, lost])
        for lost in [(), (1,), "", "1", 0, 1, True, False, {}, {1: 1}, -1, [[]], [[1]], [None]]:
            self.check_refused([[8], 0, lost])


class Build(PostCase):
    def test_names_are_told_sorted(self):
        names = ["b", "a", "zoe", "ab", "abcdefgh"]
        for order in itertools.permutations(names):
            post = Post()
            self.assertEqual(post.roads(), [])
            for name in order:
                self.assertIsNone(post.build(name, Road([8], 0)))
            self.assertEqual(post.roads(), ["a", "ab", "abcdefgh", "b", "zoe"])

    def test_no_road(self):
        road = Road([8], 0)
        post = post_of(a=road, zoe=Road([15], 1))
        for name in spoilt.NAMES + ["a", "zoe"]:
            self.check_refused(NoRoad, post, post.build, name, road)
        for thing in spoilt.THINGS + [Road, post, [8], letter_of(3)]:
            self.check_refused(NoRoad, post, post.build, "b", thing)
            self.check_refused(NoRoad, post, post.build, "a", thing)
            self.check_refused(NoRoad, post, post.build, "A", thing)
        post.build("b", road)
        self.assertEqual(post.roads(), ["a", "b", "zoe"])

    def test_two_posts_know_nothing_of_one_another(self):
        one = post_of(a=Road([8], 0))
        other = Post()
        self.assertEqual(other.roads(), [])
        one.send(5, letter_of(8), 8, ["a"])
        self.assertEqual((other.on_the_way(), other.next_time(), other.fetch(0)), (0, None, []))

    def test_one_road_in_two_posts_has_two_counts(self):
        road = Road([8], 0, [0])
        for post in [post_of(a=road), post_of(a=road)]:
            post.send(0, letter_of(16), 8, ["a"])
            self.assertEqual(spans(post.fetch(0)), [(0, 8, 16)])


class Send(PostCase):
    def test_over_one_road(self):
        post = post_of(a=Road([5000], 3))
        self.assertEqual(post.send(2, letter_of(20), 15, ["a"]), 2)
        self.assertEqual((post.on_the_way(), post.next_time()), (2, 5))
        told = post.fetch(5)
        self.assertIs(type(told), list)
        self.assertTrue(all(type(row) is tuple for row in told))
        self.assertEqual([time for time, piece in told], [5, 5])
        wanted = cut(letter_of(20), 15)
        self.assertEqual(inside([piece for time, piece in told]), inside(wanted))
        self.assertEqual((post.on_the_way(), post.next_time(), post.fetch(100)), (0, None, []))

    def test_told_is_how_many_were_put_on_roads(self):
        for width, count in [(8, 5), (16, 3), (40, 1), (39, 2), (5000, 1)]:
            post = post_of(a=Road([8], 0, [0, 2]), b=Road([15, 8], 0))
            self.assertEqual(post.send(0, letter_of(40), width, ["a"]), count)
            self.assertEqual(post.send(0, letter_of(40), width, ["b", "a"]), count)

    def test_cut_again_by_the_road_s_widths_in_order(self):
        for widths in [[40, 24], [24, 40], [15], [33, 17, 8], [5000] * 20]:
            post = post_of(a=Road(widths, 1))
            post.send(0, letter_of(100), 41, ["a"])
            wanted = cut(letter_of(100), 41)
            for width in widths:
                wanted = [part for piece in wanted for part in cut_again(piece, width)]
            self.assertEqual(post.on_the_way(), len(wanted))
            self.assertEqual(inside([piece for time, piece in post.fetch(1)]), inside(wanted))

    def test_in_turn_over_several_roads(self):
        post = post_of(a=Road([5000], 5), b=Road([8], 3), c=Road([5000], 4))
        self.assertEqual(post.send(10, letter_of(100), 16, ["b", "a", "c"]), 7)
        self.assertEqual((post.on_the_way(), post.next_time()), (9, 13))
        wanted = [(13, 0, 8), (13, 8, 16), (13, 48, 56), (13, 56, 64), (13, 96, 100)]
        wanted += [(14, 32, 48), (14, 80, 96), (15, 16, 32), (15, 64, 80)]
        self.assertEqual(spans(post.fetch(20)), wanted)

    def test_a_road_may_stand_twice_in_names(self):
        post = post_of(a=Road([5000], 0, [1, 2]), b=Road([5000], 0))
        self.assertEqual(post.send(0, letter_of(48), 8, ["a", "a", "b"]), 6)
        self.assertEqual(spans(post.fetch(0)), [(0, 0, 8), (0, 16, 24), (0, 32, 40), (0, 40, 48)])

    def test_lost_numbers_count_what_is_put_on_the_road(self):
        post = post_of(a=Road([8], 0, [1, 3]))
        self.assertEqual(post.send(0, letter_of(48), 16, ["a"]), 3)
        self.assertEqual(post.on_the_way(), 4)
        self.assertEqual(spans(post.fetch(0)), [(0, 0, 8), (0, 8, 16), (0, 32, 40), (0, 40, 48)])

    def test_the_count_goes_on_through_all_the_road_s_life(self):
        post = post_of(a=Road([5000], 0, [7, 1, 4]))
        told = []
        for number in range(10):
            self.assertEqual(post.send(number, letter_of(8, number), 8, ["a"]), 1)
            told.extend(piece.number for time, piece in post.fetch(number))
        self.assertEqual(told, [0, 2, 3, 5, 6, 8, 9])

    def test_lost_in_any_order_and_doubled(self):
        for lost in itertools.permutations([0, 2, 2, 5]):
            post = post_of(a=Road([8], 0, list(lost)))
            post.send(0, letter_of(56), 8, ["a"])
            self.assertEqual([piece.at for time, piece in post.fetch(0)], [8, 24, 32, 48])

    def test_all_lost(self):
        post = post_of(a=Road([8], 0, [0, 1]))
        self.assertEqual(post.send(4, letter_of(16), 8, ["a"]), 2)
        self.assertEqual((post.on_the_way(), post.next_time(), post.fetch(100)), (0, None, []))

    def test_one_road_under_two_names_each_with_a_count_of_its_own(self):
        road = Road([5000], 0, [1])
        post = post_of(a=road, b=road)
        self.assertEqual(post.roads(), ["a", "b"])
        post.send(0, letter_of(32), 8, ["a", "b"])
        self.assertEqual([piece.at for time, piece in post.fetch(0)], [0, 8])
        post.send(0, letter_of(24), 8, ["b"])
        self.assertEqual([piece.at for time, piece in post.fetch(0)], [0, 8, 16])

    def test_a_count_is_that_of_its_own_road_alone(self):
        post = post_of(a=Road([5000], 0, [2]), b=Road([5000], 0, [0]))
        post.send(0, letter_of(48), 8, ["a", "b"])
        self.assertEqual([piece.at for time, piece in post.fetch(0)], [0, 16, 24, 40])

    def test_a_letter_that_may_not_be_cut_goes_where_it_fits(self):
        post = post_of(a=Road([40, 41], 0), b=Road([8], 0))
        for names in [["a"], ["a", "b"], ["a", "b", "b"]]:
            self.assertEqual(post.send(0, letter_of(40, keep=True), 40, names), 1)
            told = post.fetch(0)
            self.assertEqual(spans(told), [(0, 0, 40)])
            self.assertIs(told[0][1].keep, True)

    def test_nothing_handed_in_is_changed_or_kept(self):
        body = list(range(40))
        letter = Letter(7, "ann", "bob", body)
        names = ["b", "a"]
        roads = {"a": Road([8], 0, [1]), "b": Road([15], 1)}
        before = inside([letter, list(roads.values())])
        post = post_of(**roads)
        post.send(0, letter, 16, names)
        self.assertEqual(names, ["b", "a"])
        names.clear()
        body.clear()
        self.assertEqual(post.on_the_way(), 5)
        told = post.fetch(1)
        told[0][1].body.clear()
        told.clear()
        self.assertEqual(inside([letter, list(roads.values())]), before)
        post.roads().clear()
        self.assertEqual((post.roads(), post.on_the_way()), (["a", "b"], 0))

    def test_lists_that_are_told_are_the_asker_s_own(self):
        post = post_of(a=Road([8], 2))
        post.fetch(0).append(1)
        self.assertEqual(post.fetch(0), [])
        post.send(0, letter_of(16), 8, ["a"])
        post.fetch(1).append(1)
        self.assertEqual((post.on_the_way(), post.next_time()), (2, 2))
        self.assertEqual(spans(post.fetch(2)), [(2, 0, 8), (2, 8, 16)])


class Fetch(PostCase):
    def test_just_at_the_time_of_arriving(self):
        for time, delay in [(0, 0), (0, 1), (5, 0), (5, 7), (10 ** 19, 10 ** 19)]:
            post = post_of(a=Road([8], delay))
            post.send(time, letter_of(8), 8, ["a"])
            self.assertEqual(post.next_time(), time + delay)
            if delay:
                self.assertEqual(post.fetch(time + delay - 1), [])
                self.assertEqual(post.on_the_way(), 1)
            self.assertEqual(spans(post.fetch(time + delay)), [(time + delay, 0, 8)])
            self.assertEqual((post.on_the_way(), post.next_time(), post.fetch(time + delay)), (0, None, []))

    def test_by_the_time_of_arriving_then_in_the_order_of_sending(self):
        post = post_of(slow=Road([5000], 9), fast=Road([5000], 2), now=Road([5000], 0))
        post.send(0, letter_of(24, 9), 8, ["slow", "fast"])
        post.send(1, letter_of(16, 5), 8, ["fast"])
        post.send(7, letter_of(16, 1), 8, ["fast", "slow"])
        post.send(9, letter_of(8, 0), 8, ["now"])
        self.assertEqual((post.on_the_way(), post.next_time()), (8, 2))
        told = [(time, piece.number, piece.at) for time, piece in post.fetch(15)]
        self.assertEqual(told, [(2, 9, 8), (3, 5, 0), (3, 5, 8), (9, 9, 0), (9, 9, 16), (9, 1, 0), (9, 0, 0)])
        self.assertEqual((post.on_the_way(), post.next_time()), (1, 16))
        self.assertEqual([(time, piece.number, piece.at) for time, piece in post.fetch(16)], [(16, 1, 8)])

    def test_told_once(self):
        post = post_of(a=Road([5000], 5))
        post.send(0, letter_of(8, 1), 8, ["a"])
        post.send(3, letter_of(8, 2), 8, ["a"])
        self.assertEqual([piece.number for time, piece in post.fetch(5)], [1])
        self.assertEqual(post.fetch(5), [])
        self.assertEqual([piece.number for time, piece in post.fetch(8)], [2])
        self.assertEqual(post.fetch(10 ** 19), [])

    def test_the_same_time_again(self):
        post = post_of(a=Road([8], 0))
        for number in range(3):
            post.send(4, letter_of(8, number), 8, ["a"])
            self.assertEqual([piece.number for time, piece in post.fetch(4)], [number])

    def test_against_a_plain_list(self):
        chance = random.Random(15)
        for _ in range(60):
            roads = {}
            for name in ["a", "b", "c"]:
                widths = [chance.randrange(8, 50) for _ in range(chance.randrange(1, 4))]
                lost = [number for number in range(20) if chance.random() < 0.2]
                roads[name] = Road(widths, chance.choice([0, 1, 3, 10, 10 ** 19]), chance.choice([lost, None]))
            self.check_drawn(chance, roads)

    def check_drawn(self, chance, roads):
        post = post_of(**roads)
        counts = dict.fromkeys(roads, 0)
        coming = []
        time = 0
        for number in range(12):
            time += chance.choice([0, 1, 4])
            if chance.random() < 0.3:
                wanted = sorted([row for row in coming if row[0] <= time], key=lambda row: row[:2])
                coming = [row for row in coming if row[0] > time]
                told = post.fetch(time)
                self.assertEqual([inside(row) for row in told], [inside((row[0], row[2])) for row in wanted])
            else:
                letter = letter_of(chance.randrange(1, 120), number)
                names = chance.choices(sorted(roads), k=chance.randrange(1, 5))
                width = chance.randrange(8, 70)
                pieces = cut(letter, width)
                self.assertEqual(post.send(time, letter, width, names), len(pieces))
                for place, piece in enumerate(pieces):
                    name = names[place % len(names)]
                    coming.extend(self.put(roads[name], counts[name], time, piece, number * 1000 + place))
                    counts[name] += 1
            self.assertEqual(post.on_the_way(), len(coming))
            self.assertEqual(post.next_time(), min((row[0] for row in coming), default=None))

    def put(self, road, count, time, piece, order):
        if count in road.lost:
            return []
        parts = [piece]
        for width in road.widths:
            parts = [part for one in parts for part in cut_again(one, width)]
        return [(time + road.delay, (order, place), part) for place, part in enumerate(parts)]

    def test_two_thousand_on_the_way(self):
        post = post_of(a=Road([8], 10))
        for number in range(4):
            self.assertEqual(post.send(number, letter_of(4000, number), 8, ["a"]), 500)
        self.assertEqual((post.on_the_way(), post.next_time()), (2000, 10))
        self.assertEqual(len(post.fetch(11)), 1000)
        self.assertEqual((post.on_the_way(), post.next_time()), (1000, 12))


class Refused(PostCase):
    def post(self):
        post = post_of(a=Road([40], 3, [1]), b=Road([8], 1), c=Road([5000, 15], 2))
        post.send(5, letter_of(40), 16, ["a", "b"])
        return post

    def test_no_time(self):
        post = self.post()
        for time in spoilt.FROM_NOUGHT + [0, 1, 4]:
            self.check_refused(NoTime, post, post.send, time, letter_of(8), 8, ["a"])
            self.check_refused(NoTime, post, post.fetch, time)
        new = post_of(a=Road([8], 0))
        for time in spoilt.FROM_NOUGHT:
            self.check_refused(NoTime, new, new.send, time, letter_of(8), 8, ["a"])
            self.check_refused(NoTime, new, new.fetch, time)

    def test_less_than_the_time_of_a_fetch(self):
        post = self.post()
        post.fetch(9)
        self.check_refused(NoTime, post, post.send, 8, letter_of(8), 8, ["a"])
        self.check_refused(NoTime, post, post.fetch, 8)
        self.assertEqual(post.send(9, letter_of(8), 8, ["a"]), 1)

    def test_no_time_ahead_of_all(self):
        post = self.post()
        for time in spoilt.FROM_NOUGHT[:6] + [4]:
            for letter, width, names in itertools.product([None, letter_of(50, keep=True)], [7, 8], [[], ["a"], ["x"]]):
                self.check_refused(NoTime, post, post.send, time, letter, width, names)

    def test_no_letter_behind_no_time(self):
        post = self.post()
        things = spoilt.THINGS + [Letter, Piece(7, "ann", "bob", 0, [1], False), [letter_of(8)]]
        for thing in things:
            for width, names in itertools.product([7, 8, None], [[], ["a"], ["x"], None]):
                self.check_refused(NoLetter, post, post.send, 9, thing, width, names)

    def test_no_road_behind_no_letter(self):
        post = self.post()
        names = [
            [], ["x"], ["a", "x"], ["x", "a"], ["a", "b", "A"], ("a",), ("a", "b"), "a", "ab", "", None, 0, 1, True, {},
            {"a": 1}, [["a"]], [None], ["a", None], [0], [("a",)], ["a "], [""], ["a", ""], [{}], ["a", ["b"]],
        ]
        for value in names:
            for width in [8, 7, 5001, None, True]:
                self.check_refused(NoRoad, post, post.send, 9, letter_of(50), width, value)
                self.check_refused(NoRoad, post, post.send, 9, letter_of(50, keep=True), width, value)

    def test_no_width_behind_no_road(self):
        post = self.post()
        for width in spoilt.WIDTHS:
            for keep in [True, False]:
                self.check_refused(NoWidth, post, post.send, 9, letter_of(50, keep=keep), width, ["b", "a"])

    def test_too_wide_as_the_letter_is_cut(self):
        post = self.post()
        for length, width in [(41, 40), (9, 8), (4000, 3999)]:
            self.check_refused(TooWide, post, post.send, 9, letter_of(length, keep=True), width, ["c"])

    def test_too_wide_on_the_road(self):
        post = self.post()
        for length, names in [(41, ["a"]), (9, ["b"]), (9, ["b", "a"]), (16, ["c"]), (16, ["c", "a"])]:
            self.check_refused(TooWide, post, post.send, 9, letter_of(length, keep=True), 5000, names)
            self.check_refused(TooWide, post, post.send, 10 ** 19, letter_of(length, keep=True), length, names)

    def test_a_road_on_which_no_piece_is_put_refuses_nothing(self):
        post = self.post()
        self.assertEqual(post.send(9, letter_of(40, keep=True), 40, ["a", "b", "c"]), 1)

    def test_too_wide_of_a_piece_that_would_be_lost(self):
        post = post_of(a=Road([8], 0, [0]))
        self.check_refused(TooWide, post, post.send, 9, letter_of(9, keep=True), 40, ["a"])
        self.assertEqual(post.send(9, letter_of(8, keep=True), 40, ["a"]), 1)
        self.assertEqual(post.on_the_way(), 0)

    def test_behind_a_refusal_the_time_the_counts_and_what_is_on_the_way_are_as_ahead(self):
        refused = [
            (4, letter_of(8), 8, ["a"]), (50, None, 8, ["a"]), (50, letter_of(8), 8, ["x"]),
            (50, letter_of(8), 7, ["a"]),
            (50, letter_of(50, keep=True), 8, ["a"]), (50, letter_of(50, keep=True), 50, ["a"]),
        ]
        for parts in refused:
            post = post_of(a=Road([40], 3, [2]), b=Road([8], 1))
            post.send(5, letter_of(16), 8, ["a"])
            with self.assertRaises(WayError):
                post.send(*parts)
            self.assertEqual((post.on_the_way(), post.next_time()), (2, 8))
            self.assertEqual(post.send(5, letter_of(16, 8), 8, ["a"]), 2)
            told = [(time, piece.number, piece.at) for time, piece in post.fetch(8)]
            self.assertEqual(told, [(8, 7, 0), (8, 7, 8), (8, 8, 8)])


class Carry(PostCase):
    def carried_by_hand(self, post, room, time):
        events = []
        for arrived, piece in post.fetch(time):
            events += room.come(arrived if arrived > room.now else room.now, piece)
        return events + room.tick(time)

    def check(self, post, room, time):
        other_post = copy.deepcopy(post)
        other_room = copy.deepcopy(room)
        wanted = self.carried_by_hand(other_post, other_room, time)
        told = carry(post, room, time)
        self.assertIs(type(told), list)
        self.assertEqual([plain(event) for event in told], [plain(event) for event in wanted])
        self.assertEqual(inside([post, room]), inside([other_post, other_room]))
        self.assertEqual(room.now, time)
        return [event[0] if event[0] != "gone" else event[2] for event in told]

    def test_a_letter_over_two_roads(self):
        post = post_of(a=Road([8], 4), b=Road([15], 1))
        room = Room("refuse", 10, 1000, "oldest", "rest")
        post.send(0, letter_of(40), 16, ["a", "b"])
        self.assertEqual(carry(post, room, 3), [])
        self.assertEqual((room.since((7, "ann", "bob")), room.now), (1, 3))
        events = carry(post, room, 6)
        self.assertEqual([plain(event) for event in events], [("whole", (7, "ann", "bob"), letter_of(40).body, False)])
        self.assertEqual((room.kept(), room.now, post.on_the_way()), ([], 6, 0))

    def test_each_at_its_time_of_arriving(self):
        post = post_of(a=Road([8], 2), b=Road([8], 12))
        room = Room("first", 10, 1000, "oldest", "fresh")
        post.send(0, letter_of(16), 8, ["a", "b"])
        events = carry(post, room, 30)
        key = (7, "ann", "bob")
        self.assertEqual(events, [("gone", key, "wait"), ("gone", key, "wait")])
        self.assertEqual(room.now, 30)

    def test_the_wait_ends_at_the_tick_behind_all(self):
        post = post_of(a=Road([8], 2))
        room = Room("first", 10, 1000, "oldest", "fresh")
        post.send(0, letter_of(16), 16, ["a"])
        post.send(0, letter_of(8, 9), 8, ["a"])
        post.send(0, letter_of(24, 8), 8, ["a"])
        self.assertEqual([event[1].number for event in carry(post, room, 2)], [7, 9, 8])
        room.come(3, Piece(1, "a", "b", 0, [1] * 8, True))
        self.assertEqual(carry(post, room, 12), [])
        self.assertEqual(carry(post, room, 13), [("gone", (1, "a", "b"), "wait")])

    def test_the_room_s_time_is_later_than_the_arriving(self):
        post = post_of(a=Road([8], 0), b=Road([8], 9))
        room = Room("first", 10, 1000, "oldest", "fresh")
        post.send(1, letter_of(24), 8, ["a", "b", "b"])
        room.tick(6)
        self.assertEqual(carry(post, room, 7), [])
        self.assertEqual((room.since((7, "ann", "bob")), room.now), (6, 7))
        events = carry(post, room, 15)
        self.assertEqual([plain(event)[0] for event in events], ["whole"])

    def test_nothing_on_the_way(self):
        post = Post()
        room = Room("first", 10, 1000, "oldest", "fresh")
        self.assertEqual(carry(post, room, 0), [])
        self.assertEqual(carry(post, room, 10 ** 19), [])
        self.assertEqual(room.now, 10 ** 19)
        self.check_refused(NoTime, post, post.fetch, 10 ** 19 - 1)

    def test_against_fetch_come_and_tick_by_hand(self):
        chance = random.Random(16)
        seen = []
        for _ in range(80):
            post = post_of(a=Road([8], 0), b=Road([24, 15], chance.randrange(9), [1, 5, 6]), c=Road([40], 3))
            choices = [["first", "last", "refuse"], [2, 5, 30], [30, 100, 999], ["oldest", "widest", "own"]]
            room = Room(*[chance.choice(values) for values in choices + [["fresh", "rest"]]])
            time = 0
            for _ in range(10):
                time += chance.choice([0, 1, 3])
                names = chance.choices(["a", "b", "c"], k=chance.randrange(1, 4))
                post.send(time, letter_of(chance.randrange(1, 60), chance.randrange(4)), chance.randrange(8, 30), names)
                if chance.random() < 0.3:
                    room.tick(max(time, room.now) + chance.choice([0, 0, 1]))
                if chance.random() < 0.5:
                    time = max(time + chance.choice([0, 2, 6]), room.now)
                    seen += self.check(post, room, time)
            seen += self.check(post, room, max(time, room.now) + 50)
            self.assertEqual((post.on_the_way(), room.kept()), (0, []))
        self.assertEqual(set(seen), {"whole", "late", "strange", "unlike", "wait", "room"})

    def test_no_time(self):
        piece = Piece(1, "a", "b", 0, [1] * 8, True)
        for post_time, room_time in [(5, 5), (5, 3), (3, 5), (5, 0), (0, 5)]:
            post = post_of(a=Road([8], 0))
            post.send(post_time, letter_of(16), 8, ["a"])
            room = Room("first", 10, 1000, "oldest", "fresh")
            room.come(room_time, piece)
            both = [post, room]
            for time in spoilt.FROM_NOUGHT + [0, 1, 3, 4]:
                self.check_refused(NoTime, both, carry, post, room, time)
            self.assertEqual((post.on_the_way(), room.kept()), (2, [(1, "a", "b")]))
            self.assertEqual([plain(event)[0] for event in carry(post, room, 5)], ["whole"])

    def test_lists_that_are_told_are_the_asker_s_own(self):
        post = post_of(a=Road([8], 0))
        room = Room("first", 10, 1000, "oldest", "fresh")
        carry(post, room, 0).append(1)
        self.assertEqual(carry(post, room, 0), [])


if __name__ == "__main__":
    unittest.main()
