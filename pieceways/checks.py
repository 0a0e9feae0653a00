"""What counts as a whole number, a truth, a name, a key, a body, a width, a rule, a time and a number's figures."""

MOST_NUMBER = 65535
MOST_BYTE = 255
MOST_SIGNS = 8
MOST_BYTES = 4000
LEAST_WIDTH = 8
MOST_WIDTH = 5000
MOST_WIDTHS = 20
MOST_FIGURES = 12
RULES = ("first", "last", "refuse")
OUTS = ("oldest", "widest", "own")
AGAINS = ("fresh", "rest")


def is_whole(value):
    # Python counts True and False among the ints; here they are no whole numbers.
    return isinstance(value, int) and not isinstance(value, bool)


def is_whole_within(value, low, high):
    return is_whole(value) and low <= value <= high


def is_whole_from(value, low):
    return is_whole(value) and value >= low


def is_truth(value):
    return isinstance(value, bool)


def is_number(value):
    return is_whole_within(value, 0, MOST_NUMBER)


def is_name(value):
    if not isinstance(value, str) or not 1 <= len(value) <= MOST_SIGNS:
        return False
    # islower and isalpha would let letters beyond a to z by.
    return all(["a" <= sign <= "z" for sign in value])


def is_key(value):
    # Python takes (True, "a", "b") for equal to (1, "a", "b"), so a look into a dict of keys is not enough.
    if not isinstance(value, tuple) or len(value) != 3:
        return False
    return is_number(value[0]) and is_name(value[1]) and is_name(value[2])


def is_byte(value):
    return is_whole_within(value, 0, MOST_BYTE)


def is_body(value):
    if not isinstance(value, list) or not 1 <= len(value) <= MOST_BYTES:
        return False
    return all([is_byte(part) for part in value])


def is_length(value):
    return is_whole_within(value, 1, MOST_BYTES)


def is_width(value):
    return is_whole_within(value, LEAST_WIDTH, MOST_WIDTH)


def are_widths(value):
    if not isinstance(value, list) or not 1 <= len(value) <= MOST_WIDTHS:
        return False
    return all([is_width(part) for part in value])


def is_rule(value):
    return isinstance(value, str) and value in RULES


def is_out(value):
    return isinstance(value, str) and value in OUTS


def is_again(value):
    return isinstance(value, str) and value in AGAINS


def are_figures(word):
    if not 1 <= len(word) <= MOST_FIGURES:
        return False
    # isdigit would let figures beyond 0 to 9 by.
    return all(["0" <= sign <= "9" for sign in word]) and (word == "0" or not word.startswith("0"))
