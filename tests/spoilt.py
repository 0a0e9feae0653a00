"""Values that are no good: as a part of a letter or a piece, as a width, widths, a length, a rule, a time and so on."""

NUMBERS = [-1, -65536, 65536, 10 ** 19, True, False, "7", "", None, [7], (7,)]
NAMES = [
    "", "abcdefghi", "Ann", "anN", "ANN", "a1", "7", "a b", " ", " ann", "ann ", "a-b", "a_b", "ann\n", "`", "{",
    "\u00e9", "\u00df", ["a"], ["ann"], ("a",), None, 7, True,
]
TRUTHS = [0, 1, 2, "", "True", "!", None, [], [True]]
BYTES = [-1, -256, 256, 1000, True, False, "a", "7", "", None, [7], (7,)]
PLACES = [-8, -1, 1, 4, 7, 9, 12, 3999, -(10 ** 19), True, False, "0", "8", "", None, [0], (8,)]
WIDTHS = [7, 1, 0, -1, -8, -16, 5001, 5008, 10 ** 19, True, False, "8", "16", "", None, [], [16], (16,), {16: 16}]
LENGTHS = [0, -1, -8, -4000, 4001, 4008, 10 ** 19, True, False, "8", "", None, [], [8], (8,)]
RULES = [
    "", "First", "LAST", "firsts", "firs", " first", "first ", "refuse\n", "oldest", "fresh", "first last", None, 0, 1,
    True, False, [], ["first"], ("first",), ("first", "last", "refuse"), {"first": True},
]
OUTS = [
    "", "Oldest", "OWN", "own ", " own", "owns", "wides", "first", "fresh", "oldest widest", None, 0, True, [], ["own"],
    ("own",), {"own": True},
]
AGAINS = [
    "", "Fresh", "REST", "rest ", " rest", "rests", "fres", "own", "first", "fresh rest", None, 0, True, False, [],
    ["rest"], ("rest",), {"rest": True},
]
# Of waits and spaces, which begin at 1.
FROM_ONE = [0, -1, -10, -(10 ** 19), True, False, None, "1", "5", "", [], [5], (5,), {5: 5}]
# Of times and delays, which begin at 0.
FROM_NOUGHT = [-1, -10, -(10 ** 19), True, False, None, "0", "5", "", [], [5], (5,), {5: 5}]
THINGS = [None, 7, True, "7 a b 0 . . 00", "", [], [7], (7, "a", "b"), {}]


def width_lists():
    whole_ones = [[], [16] * 21, [16] * 40, (16,), (16, 24), 16, 8, 0, True, False, None, "", "16", {16: 16}, [[16]]]
    told = list(whole_ones)
    for count in [1, 2, 3, 20]:
        for place in range(count):
            for value in WIDTHS:
                widths = [16 + 8 * number for number in range(count)]
                widths[place] = value
                told.append(widths)
    return told


def bodies_with_a_spoilt_byte(body):
    told = []
    for place in range(len(body)):
        for value in BYTES:
            spoilt = list(body)
            spoilt[place] = value
            told.append(spoilt)
    return told


def bodies(body):
    whole_ones = [[], [0] * 4001, [0] * 4008, (1, 2, 3), "abc", "", None, 7, True, {0: 1}, [None] * 3, [[1]]]
    return whole_ones + bodies_with_a_spoilt_byte(body)


def with_each_spoilt(parts, spoilt):
    """The parts with one of them spoilt, in each way; parts by place, spoilt a dict of place and values."""
    told = []
    for place in spoilt:
        for value in spoilt[place]:
            changed = list(parts)
            changed[place] = value
            told.append(changed)
    return told


def with_two_spoilt(parts, spoilt):
    told = []
    for place in spoilt:
        for changed in with_each_spoilt(parts, {place: spoilt[place][:12]}):
            others = {other: spoilt[other][:12] for other in spoilt if other > place}
            told.extend(with_each_spoilt(changed, others))
    return told
