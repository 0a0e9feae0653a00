"""Values that are no good as a part of a letter or a piece, for the tests of both."""

NUMBERS = [-1, -65536, 65536, 10 ** 19, True, False, "7", "", None, [7], (7,)]
NAMES = [
    "", "abcdefghi", "Ann", "anN", "ANN", "a1", "7", "a b", " ", " ann", "ann ", "a-b", "a_b", "ann\n", "`", "{",
    "\u00e9", "\u00df", ["a"], ["ann"], ("a",), None, 7, True,
]
TRUTHS = [0, 1, 2, "", "True", "!", None, [], [True]]
BYTES = [-1, -256, 256, 1000, True, False, "a", "7", "", None, [7], (7,)]
PLACES = [-8, -1, 1, 4, 7, 9, 12, 3999, -(10 ** 19), True, False, "0", "8", "", None, [0], (8,)]


def bodies_with_a_spoilt_byte(body):
    told = []
    for place in range(len(body)):
        for value in BYTES:
            spoilt = list(body)
            spoilt[place] = value
            told.append(spoilt)
    return told


def bodies(body):
    whole_ones = [[], [0] * 4001, [0] * 4008, (1, 2, 3), "abc", "", None, 7, True, {0: 1}, [None] * 3, [[1]]]
    return whole_ones + bodies_with_a_spoilt_byte(body)


def with_each_spoilt(parts, spoilt):
    """The parts with one of them spoilt, in each way; parts by place, spoilt a dict of place and values."""
    told = []
    for place in spoilt:
        for value in spoilt[place]:
            changed = list(parts)
            changed[place] = value
            told.append(changed)
    return told


def with_two_spoilt(parts, spoilt):
    told = []
    for place in spoilt:
        for changed in with_each_spoilt(parts, {place: spoilt[place][:12]}):
            others = {other: spoilt[other][:12] for other in spoilt if other > place}
            told.extend(with_each_spoilt(changed, others))
    return told
