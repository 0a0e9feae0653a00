"""What counts as a whole number, a truth, a name, a key's number, a body, a width and a rule."""

MOST_NUMBER = 65535
MOST_BYTE = 255
MOST_SIGNS = 8
MOST_BYTES = 4000
LEAST_WIDTH = 8
MOST_WIDTH = 5000
MOST_WIDTHS = 20
RULES = ("first", "last", "refuse")


def is_whole(value):
    # Python counts True and False among the ints; here they are no whole numbers.
    return isinstance(value, int) and not isinstance(value, bool)


def is_whole_within(value, low, high):
    return is_whole(value) and low <= value <= high


def is_truth(value):
    return isinstance(value, bool)


def is_number(value):
    return is_whole_within(value, 0, MOST_NUMBER)


def is_name(value):
    if not isinstance(value, str) or not 1 <= len(value) <= MOST_SIGNS:
        return False
    # islower and isalpha would let letters beyond a to z by.
    return all(["a" <= sign <= "z" for sign in value])


def is_byte(value):
    return is_whole_within(value, 0, MOST_BYTE)


def is_body(value):
    if not isinstance(value, list) or not 1 <= len(value) <= MOST_BYTES:
        return False
    return all([is_byte(part) for part in value])


def is_length(value):
    return is_whole_within(value, 1, MOST_BYTES)


def is_width(value):
    return is_whole_within(value, LEAST_WIDTH, MOST_WIDTH)


def are_widths(value):
    if not isinstance(value, list) or not 1 <= len(value) <= MOST_WIDTHS:
        return False
    return all([is_width(part) for part in value])


def is_rule(value):
    return isinstance(value, str) and value in RULES
