"""Letters, and the pieces into which they are cut."""

from pieceways.checks import MOST_BYTES, is_body, is_name, is_number, is_truth, is_whole
from pieceways.errors import NoLetter, NoPiece

STEP = 8


def are_shared_parts(number, sender, goal, body, keep):
    return is_number(number) and is_name(sender) and is_name(goal) and is_body(body) and is_truth(keep)


def is_place(at):
    return is_whole(at) and at >= 0 and at % STEP == 0


def has_room(at, length, more):
    # Where bytes come behind, the next piece begins at this one's end: at a place, and with a byte left to stand there.
    if more:
        return length % STEP == 0 and at + length < MOST_BYTES
    return at + length <= MOST_BYTES


class Letter:
    def __init__(self, number, sender, goal, body, keep=False):
        if not are_shared_parts(number, sender, goal, body, keep):
            raise NoLetter("these parts make no letter")
        self.number = number
        self.sender = sender
        self.goal = goal
        # A copy, so that what is done to the list that was handed in changes nothing here.
        self.body = list(body)
        self.keep = keep

    def key(self):
        return (self.number, self.sender, self.goal)

    def is_like(self, other):
        return self.key() == other.key() and self.body == other.body and self.keep == other.keep


class Piece:
    def __init__(self, number, sender, goal, at, body, more, keep=False):
        if not are_shared_parts(number, sender, goal, body, keep):
            raise NoPiece("these parts make no piece")
        if not is_place(at) or not is_truth(more) or not has_room(at, len(body), more):
            raise NoPiece("no piece of a letter stands there")
        self.number = number
        self.sender = sender
        self.goal = goal
        self.at = at
        # A copy, as in a letter.
        self.body = list(body)
        self.more = more
        self.keep = keep

    def key(self):
        return (self.number, self.sender, self.goal)

    def end(self):
        return self.at + len(self.body)

    def is_like(self, other):
        if self.key() != other.key() or self.at != other.at or self.body != other.body:
            return False
        return self.more == other.more and self.keep == other.keep
