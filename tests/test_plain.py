import copy
import itertools
import random
import unittest

import spoilt
from plain_model import missing, read_byte_by_byte, unlike, whole
from pieceways.errors import NoPiece, NoRule, WayError
from pieceways.letters import Letter, Piece
from pieceways.plain import Answer, Lacking, Unlike, Whole, judged, read_all

RULES = ["first", "last", "refuse"]
LETTER = [(17 * number + 3) % 251 for number in range(48)]


def part(at, end, more, changed=(), keep=False):
    """The piece of LETTER from at on below end, with other bytes at the changed numbers."""
    body = [LETTER[number] + (1 if number in changed else 0) for number in range(at, end)]
    return Piece(7, "ann", "bob", at, body, more, keep)


def keyed(key, at, body, more):
    return Piece(key[0], key[1], key[2], at, body, more)


def shown(answer):
    """An answer as plain values, the field under its name."""
    return (type(answer).__name__, vars(answer))


class Judging(unittest.TestCase):
    def check(self, pieces, rule, wanted):
        with self.subTest(rule=rule, pieces=[(piece.at, piece.end(), piece.more) for piece in pieces]):
            before = copy.deepcopy([vars(piece) for piece in pieces])
            listed = list(pieces)
            self.assertEqual(shown(judged(pieces, rule)), wanted)
            self.assertEqual(pieces, listed)
            self.assertEqual([vars(piece) for piece in pieces], before)

    def check_all_rules(self, pieces, wanted):
        for rule in RULES:
            self.check(pieces, rule, wanted)

    def check_passed_over(self, pieces, strange, wanted):
        """By "first" and "last" the strange one is passed over, by "refuse" all is over with its at."""
        for rule in ["first", "last"]:
            self.check(pieces + [strange], rule, wanted)
        self.check(pieces + [strange], "refuse", unlike(strange.at))


class Answers(unittest.TestCase):
    def test_classes(self):
        for kind in [Whole, Lacking, Unlike]:
            self.assertTrue(issubclass(kind, Answer))
            for other in [Whole, Lacking, Unlike]:
                self.assertEqual(issubclass(kind, other), kind is other)
        self.assertIs(type(Answer()), Answer)

    def test_fields_and_kinds(self):
        answer = judged([part(0, 5, False)], "first")
        self.assertIs(type(answer), Whole)
        self.assertIs(type(answer.body), list)
        answer = judged([part(8, 16, True)], "first")
        self.assertIs(type(answer), Lacking)
        self.assertIs(type(answer.spans), list)
        self.assertTrue(all(type(span) is tuple for span in answer.spans))
        answer = judged([part(8, 16, True), part(8, 16, True, [9])], "refuse")
        self.assertIs(type(answer), Unlike)
        self.assertEqual(answer.at, 9)

    def test_a_changed_answer_changes_nothing(self):
        for pieces in [[part(0, 5, False)], [part(0, 8, True), part(8, 11, False)], [part(8, 16, True)]]:
            for rule in RULES:
                before = copy.deepcopy([vars(piece) for piece in pieces])
                answer = judged(pieces, rule)
                wanted = copy.deepcopy(shown(answer))
                for field in vars(answer).values():
                    field[0] = None
                    field.append(1)
                self.assertEqual([vars(piece) for piece in pieces], before)
                self.assertEqual(shown(judged(pieces, rule)), wanted)

    def test_a_changed_piece_changes_no_answer(self):
        piece = part(0, 5, False)
        answer = judged([piece], "first")
        piece.body[0] = 250
        piece.body.append(1)
        self.assertEqual(answer.body, LETTER[:5])


class WholeLetters(Judging):
    def test_one_piece_alone(self):
        for length in [1, 7, 8, 9, 48]:
            self.check_all_rules([part(0, length, False)], whole(LETTER[:length]))
        body = [number % 251 for number in range(4000)]
        self.check_all_rules([keyed((1, "a", "b"), 0, body, False)], whole(body))

    def test_any_order(self):
        pieces = [part(0, 8, True), part(8, 24, True), part(24, 32, True), part(32, 37, False)]
        for order in itertools.permutations(pieces):
            self.check_all_rules(list(order), whole(LETTER[:37]))

    def test_doubled(self):
        pieces = [part(0, 8, True), part(8, 24, True), part(24, 29, False)]
        for order in itertools.permutations(pieces + pieces[:2]):
            self.check_all_rules(list(order), whole(LETTER[:29]))

    def test_overlapping_alike(self):
        pieces = [part(0, 16, True), part(8, 24, True), part(16, 29, False), part(24, 29, False)]
        for order in itertools.permutations(pieces):
            self.check_all_rules(list(order), whole(LETTER[:29]))

    def test_the_same_end_told_twice(self):
        self.check_all_rules([part(16, 21, False), part(8, 21, False), part(0, 8, True)], whole(LETTER[:21]))

    def test_what_comes_behind_is_not_looked_at(self):
        behind = [
            part(0, 8, True, [0]), part(8, 16, True), part(16, 24, True), part(0, 21, False, [3]), part(0, 40, False),
            part(0, 8, False),
        ]
        for piece in behind:
            for pieces in [[part(0, 13, False), piece], [part(8, 13, False), part(0, 8, True), piece, piece]]:
                self.check_all_rules(pieces, whole(LETTER[:13]))

    def test_keep_plays_no_part(self):
        for keeps in itertools.product([True, False], repeat=3):
            pieces = [part(0, 8, True, keep=keeps[0]), part(8, 13, False, keep=keeps[1])]
            self.check_all_rules(pieces, whole(LETTER[:13]))
            twice = [part(0, 8, True, keep=keeps[0]), part(0, 8, True, keep=keeps[1])]
            pieces = twice + [part(16, 24, True, keep=keeps[2])]
            self.check_all_rules(pieces, missing((8, 16), (24, None)))
            pieces = [part(0, 8, True, keep=keeps[0]), part(0, 8, True, [5], keep=keeps[1])]
            self.check(pieces, "refuse", unlike(5))


class LackingLetters(Judging):
    def test_the_end_not_known(self):
        self.check_all_rules([part(0, 8, True)], missing((8, None)))
        self.check_all_rules([part(8, 16, True)], missing((0, 8), (16, None)))
        self.check_all_rules([part(24, 32, True), part(0, 16, True)], missing((16, 24), (32, None)))
        self.check_all_rules([part(0, 16, True), part(0, 16, True)], missing((16, None)))

    def test_the_end_known(self):
        self.check_all_rules([part(8, 13, False)], missing((0, 8)))
        self.check_all_rules([part(40, 48, False), part(8, 16, True)], missing((0, 8), (16, 40)))
        self.check_all_rules([part(0, 8, True), part(32, 33, False)], missing((8, 32)))

    def test_the_greatest_letter(self):
        key = (1, "a", "b")
        self.check_all_rules([keyed(key, 3992, [1] * 8, False)], missing((0, 3992)))
        self.check_all_rules([keyed(key, 0, [1] * 3992, True)], missing((3992, None)))
        self.check_all_rules([keyed(key, 0, [1] * 3992, True), keyed(key, 3992, [2] * 8, False)],
                             whole([1] * 3992 + [2] * 8))


class StrangePieces(Judging):
    def test_an_end_above_the_end_with_more(self):
        self.check_passed_over([part(16, 24, False)], part(24, 32, True), missing((0, 16)))
        self.check_passed_over([part(16, 24, False)], part(8, 32, True), missing((0, 16)))
        self.check_passed_over([part(8, 13, False)], part(8, 16, True), missing((0, 8)))

    def test_an_end_above_the_end_without_more(self):
        self.check_passed_over([part(16, 24, False)], part(24, 25, False), missing((0, 16)))
        self.check_passed_over([part(16, 24, False)], part(8, 25, False), missing((0, 16)))

    def test_the_end_with_more(self):
        self.check_passed_over([part(16, 24, False)], part(8, 24, True), missing((0, 16)))
        self.check_passed_over([part(16, 24, False)], part(0, 24, True), missing((0, 16)))
        self.check_passed_over([part(16, 24, False)], part(16, 24, True), missing((0, 16)))

    def test_an_end_below_the_end_without_more(self):
        self.check_passed_over([part(16, 24, False)], part(8, 23, False), missing((0, 16)))
        self.check_passed_over([part(16, 24, False)], part(0, 3, False), missing((0, 16)))

    def test_not_above_a_piece_with_more(self):
        self.check_passed_over([part(16, 24, True)], part(8, 13, False), missing((0, 16), (24, None)))
        self.check_passed_over([part(16, 24, True)], part(16, 24, False), missing((0, 16), (24, None)))
        self.check_passed_over([part(16, 24, True)], part(8, 24, False), missing((0, 16), (24, None)))
        self.check_passed_over([part(16, 24, True), part(0, 8, True)], part(8, 16, False), missing((8, 16), (24, None)))
        self.check_passed_over([part(0, 8, True), part(16, 24, True)], part(8, 16, False), missing((8, 16), (24, None)))
        self.check_passed_over([part(0, 8, True)], part(0, 8, False), missing((8, None)))

    def test_just_not_strange(self):
        self.check_all_rules([part(16, 24, True), part(24, 25, False)], missing((0, 16)))
        self.check_all_rules([part(16, 24, True), part(16, 25, False)], missing((0, 16)))
        self.check_all_rules([part(24, 32, False), part(16, 24, True)], missing((0, 16)))
        self.check_all_rules([part(24, 25, False), part(16, 24, True)], missing((0, 16)))
        self.check_all_rules([part(24, 32, False), part(16, 32, False)], missing((0, 16)))

    def test_the_first_one_is_never_strange(self):
        self.check_all_rules([part(16, 24, True)], missing((0, 16), (24, None)))
        self.check_all_rules([part(16, 24, False)], missing((0, 16)))

    def test_a_strange_piece_tells_no_end(self):
        for rule in ["first", "last"]:
            pieces = [part(16, 24, True), part(8, 16, False), part(0, 16, True)]
            self.check(pieces, rule, missing((24, None)))
            self.check(pieces + [part(24, 40, True)], rule, missing((40, None)))
            self.check(pieces + [part(24, 33, False)], rule, whole(LETTER[:33]))

    def test_a_strange_piece_with_more_is_not_taken_for_the_reach(self):
        for rule in ["first", "last"]:
            pieces = [part(16, 24, False), part(0, 40, True), part(8, 24, False)]
            self.check(pieces, rule, missing((0, 8)))
            self.check(pieces + [part(0, 8, True)], rule, whole(LETTER[:24]))

    def test_nothing_of_a_strange_piece_is_taken(self):
        for rule in ["first", "last"]:
            pieces = [part(16, 24, False), part(8, 32, True, [9, 17]), part(0, 16, True)]
            self.check(pieces, rule, whole(LETTER[:24]))

    def test_strange_goes_ahead_of_unlike_bytes(self):
        self.check([part(16, 24, False), part(8, 32, True, [16, 20])], "refuse", unlike(8))
        self.check([part(16, 24, True), part(8, 24, False, [16, 20])], "refuse", unlike(8))

    def test_refused_ahead_of_what_would_make_it_whole(self):
        self.check([part(0, 8, True), part(0, 8, False), part(8, 13, False)], "refuse", unlike(0))


class UnlikeBytes(Judging):
    def test_the_rule_tells_which_byte_stands(self):
        pieces = [part(0, 16, True), part(8, 16, True, [10, 12]), part(16, 20, False)]
        changed = part(0, 20, False, [10, 12]).body
        self.check(pieces, "first", whole(LETTER[:20]))
        self.check(pieces, "last", whole(changed))
        self.check(pieces, "refuse", unlike(10))
        turned = [pieces[1], pieces[0], pieces[2]]
        self.check(turned, "first", whole(changed))
        self.check(turned, "last", whole(LETTER[:20]))
        self.check(turned, "refuse", unlike(10))

    def test_the_least_number_of_the_piece(self):
        for changed, at in [([0, 15], 0), ([15], 15), ([7, 8], 7), ([3, 4, 5], 3), ([8, 12], 8)]:
            self.check([part(0, 16, True), part(0, 16, True, changed)], "refuse", unlike(at))
        self.check([part(8, 16, True), part(0, 24, True, [3, 13, 20])], "refuse", unlike(13))
        self.check([part(24, 32, True), part(8, 16, True), part(0, 40, True, [25, 9])], "refuse", unlike(9))

    def test_the_first_such_piece_ends_it(self):
        pieces = [part(0, 24, True), part(16, 24, True, [20]), part(0, 8, True, [1]), part(24, 25, False)]
        self.check(pieces, "refuse", unlike(20))

    def test_bytes_that_fill_gaps_are_never_unlike(self):
        self.check_all_rules([part(0, 8, True), part(16, 24, True), part(0, 24, True)], missing((24, None)))
        pieces = [part(0, 8, True), part(16, 24, True), part(0, 24, True, [9, 10])]
        self.check_all_rules(pieces, missing((24, None)))
        self.check_all_rules(pieces + [part(24, 25, False)], whole(part(0, 25, False, [9, 10]).body))

    def test_a_last_piece_with_unlike_bytes_tells_the_end_all_the_same(self):
        pieces = [part(8, 16, True), part(8, 17, False, [8, 16]), part(0, 8, True)]
        self.check(pieces, "first", whole(part(0, 17, False, [16]).body))
        self.check(pieces, "last", whole(part(0, 17, False, [8, 16]).body))
        self.check(pieces, "refuse", unlike(8))

    def test_the_last_one_that_came_stands_by_last(self):
        pieces = [part(0, 8, True), part(0, 8, True, [1]), part(0, 8, True, [2]), part(8, 9, False)]
        self.check(pieces, "first", whole(LETTER[:9]))
        self.check(pieces, "last", whole(part(0, 9, False, [2]).body))

    def test_a_nought_is_a_byte_like_others(self):
        key = (1, "a", "b")
        pieces = [keyed(key, 0, [0] * 8, True), keyed(key, 0, [1] * 8, True), keyed(key, 8, [0], False)]
        self.check(pieces, "first", whole([0] * 9))
        self.check(pieces, "last", whole([1] * 8 + [0]))
        self.check(pieces, "refuse", unlike(0))


class AgainstAReaderOfBytes(Judging):
    def check_pieces(self, pieces):
        for rule in RULES:
            told = shown(judged(pieces, rule))
            if told != read_byte_by_byte(pieces, rule):
                self.check(pieces, rule, read_byte_by_byte(pieces, rule))

    def test_every_row_of_up_to_three(self):
        edges = [
            (0, 8, True), (0, 16, True), (8, 16, True), (16, 24, True), (0, 5, False), (0, 8, False), (8, 11, False),
            (8, 16, False), (0, 16, False), (16, 17, False),
        ]
        pool = [part(*edge) for edge in edges] + [part(*edge, [2, 10, 13, 16]) for edge in edges]
        for count in [1, 2, 3]:
            for pieces in itertools.product(pool, repeat=count):
                self.check_pieces(list(pieces))

    def some_piece(self, chance):
        at = 8 * chance.randrange(6)
        more = chance.random() < 0.75
        end = 8 * chance.randrange(at // 8 + 1, 7) if more else chance.randrange(at + 1, 49)
        changed = [number for number in range(48) if chance.random() < 0.02]
        return part(at, end, more, changed, chance.random() < 0.5)

    def test_many_rows_by_chance(self):
        chance = random.Random(4)
        for _ in range(3000):
            self.check_pieces([self.some_piece(chance) for _ in range(chance.randrange(1, 15))])

    def test_rows_that_mostly_fit(self):
        chance = random.Random(5)
        for _ in range(2000):
            pieces = [part(at, at + 8, True) for at in range(0, 40, 8)] + [part(40, 45, False)]
            pieces += [self.some_piece(chance) for _ in range(chance.randrange(4))]
            chance.shuffle(pieces)
            self.check_pieces(pieces[:chance.randrange(4, len(pieces) + 1)])

    def test_six_hundred_pieces(self):
        chance = random.Random(6)
        key = (1, "a", "b")
        body = [chance.randrange(256) for _ in range(4000)]
        pieces = [keyed(key, at, body[at:at + 8], at + 8 < 4000) for at in range(0, 4000, 8)]
        pieces += pieces[:100]
        chance.shuffle(pieces)
        self.check_pieces(pieces)
        self.check_all_rules(pieces, whole(body))


class RefusedReadings(unittest.TestCase):
    def check(self, refusal, function, pieces, rule):
        before = (repr(pieces), repr(rule))
        with self.subTest(function=function.__name__, pieces=before[0], rule=before[1]):
            with self.assertRaises(WayError) as caught:
                function(pieces, rule)
            self.assertIs(type(caught.exception), refusal)
            self.assertEqual((repr(pieces), repr(rule)), before)

    def test_no_rule(self):
        for rule in spoilt.RULES:
            self.check(NoRule, judged, [part(0, 5, False)], rule)
            self.check(NoRule, read_all, [part(0, 5, False)], rule)

    def test_no_rule_ahead_of_all(self):
        unlike_keys = [part(0, 5, False), keyed((8, "ann", "bob"), 0, [1], False)]
        for rule in spoilt.RULES:
            for pieces in [[], [None], [7], unlike_keys, unlike_keys + ["piece"], None]:
                self.check(NoRule, judged, pieces, rule)
            self.check(NoRule, read_all, [], rule)
            self.check(NoRule, read_all, [None], rule)

    def test_no_pieces(self):
        for rule in RULES:
            self.check(NoPiece, judged, [], rule)

    def test_unlike_keys(self):
        for key in [(8, "ann", "bob"), (7, "anna", "bob"), (7, "ann", "bo"), (7, "bob", "ann")]:
            for rule in RULES:
                other = keyed(key, 8, [1], False)
                self.check(NoPiece, judged, [part(0, 8, True), other], rule)
                self.check(NoPiece, judged, [other, part(0, 8, True)], rule)
                self.check(NoPiece, judged, [part(0, 8, True), part(8, 9, False), other], rule)

    def test_something_that_is_no_piece(self):
        letter = Letter(7, "ann", "bob", [1, 2, 3])
        for thing in [None, 7, True, "piece", [], [part(0, 8, True)], (7, "ann", "bob"), {}, letter, Piece]:
            for rule in RULES:
                self.check(NoPiece, judged, [thing], rule)
                self.check(NoPiece, judged, [part(0, 8, True), thing], rule)
                self.check(NoPiece, judged, [thing, part(0, 8, True)], rule)
                self.check(NoPiece, judged, [part(0, 5, False), thing], rule)
                self.check(NoPiece, judged, [part(0, 8, True), part(0, 8, False), thing], rule)


class ReadAll(unittest.TestCase):
    KEYS = [
        (7, "ann", "bob"), (7, "ann", "cy"), (7, "bob", "ann"), (10, "ann", "bob"), (9, "zoe", "zoe"),
        (65535, "a", "a"),
    ]

    def test_of_no_pieces_nothing(self):
        for rule in RULES:
            told = read_all([], rule)
            self.assertEqual(told, [])
            told.append(1)
            self.assertEqual(read_all([], rule), [])

    def test_written_out(self):
        pieces = [
            keyed((10, "b", "a"), 0, [1] * 8, True), keyed((9, "b", "a"), 8, [2], False),
            keyed((9, "b", "a"), 0, [3] * 8, True), keyed((10, "a", "z"), 8, [4], False),
            keyed((10, "b", "a"), 0, [5] * 8, True), keyed((9, "b", "a"), 0, [6], False),
        ]
        told = {
            "first": [whole([3] * 8 + [2]), missing((0, 8)), missing((8, None))],
            "last": [whole([3] * 8 + [2]), missing((0, 8)), missing((8, None))],
            "refuse": [whole([3] * 8 + [2]), missing((0, 8)), unlike(0)],
        }
        for rule in RULES:
            answers = read_all(pieces, rule)
            self.assertEqual([key for key, answer in answers], [(9, "b", "a"), (10, "a", "z"), (10, "b", "a")])
            self.assertEqual([shown(answer) for key, answer in answers], told[rule])

    def test_sorted_by_key_as_python_sorts(self):
        for order in itertools.permutations(self.KEYS):
            told = read_all([keyed(key, 0, [key[0] % 256], False) for key in order], "first")
            self.assertEqual([key for key, answer in told], sorted(self.KEYS))
            self.assertEqual([answer.body for key, answer in told], [[key[0] % 256] for key in sorted(self.KEYS)])

    def test_each_key_as_judged_of_its_own(self):
        chance = random.Random(7)
        for _ in range(200):
            pieces = []
            for _ in range(chance.randrange(1, 40)):
                at = 8 * chance.randrange(4)
                body = [chance.randrange(2) * (chance.random() < 0.1) for _ in range(8)]
                pieces.append(keyed(chance.choice(self.KEYS), at, body, at < 24))
            before = copy.deepcopy([vars(piece) for piece in pieces])
            listed = list(pieces)
            for rule in RULES:
                told = read_all(pieces, rule)
                self.assertIs(type(told), list)
                self.assertTrue(all(type(row) is tuple and len(row) == 2 for row in told))
                self.assertEqual([key for key, answer in told], sorted({piece.key() for piece in pieces}))
                for key, answer in told:
                    own = [piece for piece in pieces if piece.key() == key]
                    self.assertEqual(shown(answer), shown(judged(own, rule)))
                    self.assertEqual(shown(answer), read_byte_by_byte(own, rule))
            self.assertEqual(pieces, listed)
            self.assertEqual([vars(piece) for piece in pieces], before)

    def test_a_changed_answer_changes_nothing(self):
        pieces = [keyed(key, 0, [5], False) for key in self.KEYS]
        told = read_all(pieces, "first")
        for key, answer in told:
            answer.body.append(1)
        told.clear()
        self.assertEqual([answer.body for key, answer in read_all(pieces, "first")], [[5]] * len(self.KEYS))


if __name__ == "__main__":
    unittest.main()
