"""The plain reader: what comes of pieces that are taken one behind the other."""

from pieceways.checks import is_rule
from pieceways.errors import NoPiece, NoRule
from pieceways.letters import Piece
from pieceways.spans import lacking, with_span


class Answer:
    pass


class Whole(Answer):
    def __init__(self, body):
        self.body = list(body)


class Lacking(Answer):
    def __init__(self, spans):
        self.spans = list(spans)


class Unlike(Answer):
    def __init__(self, at):
        self.at = at


# What was taken of the pieces of one key. It takes them one by one, so that whoever waits for more can keep it.
class Reading:
    def __init__(self, rule):
        self.rule = rule
        self.standing = {}
        self.cover = []
        # The END, None while it is not known.
        self.ending = None
        # The greatest end of a taken piece with more True: the letter goes on behind it.
        self.reach = 0

    def is_strange(self, piece):
        if piece.more:
            return self.ending is not None and piece.end() >= self.ending
        if self.ending is not None:
            # No taken piece with more True reaches the END, so one that ends there is above them all.
            return piece.end() != self.ending
        return piece.end() <= self.reach

    def unlike_number(self, piece):
        for number, byte in enumerate(piece.body, start=piece.at):
            if number in self.standing and self.standing[number] != byte:
                return number
        return None

    def take(self, piece):
        for number, byte in enumerate(piece.body, start=piece.at):
            if self.rule == "last" or number not in self.standing:
                self.standing[number] = byte
        self.cover = with_span(self.cover, (piece.at, piece.end()))
        if piece.more:
            self.reach = max(self.reach, piece.end())
        else:
            # Where the END is known already, a piece that is not strange ends there too.
            self.ending = piece.end()

    def size(self):
        return len(self.standing)

    def missing(self):
        return lacking(self.cover, self.ending)

    def taken_body(self):
        return [self.standing[number] for number in range(self.ending)]

    # None where the reading goes on, the piece taken or passed over.
    def answer_to(self, piece):
        if self.is_strange(piece):
            return Unlike(piece.at) if self.rule == "refuse" else None
        if self.rule == "refuse":
            number = self.unlike_number(piece)
            if number is not None:
                return Unlike(number)
        self.take(piece)
        # While the END is not known, something lacks always.
        return Whole(self.taken_body()) if self.missing() == [] else None


def check_rule(rule):
    if not is_rule(rule):
        raise NoRule("a rule is first, last or refuse")


def are_pieces(value):
    return isinstance(value, list) and all([isinstance(part, Piece) for part in value])


def of_one_key(pieces):
    return all([piece.key() == pieces[0].key() for piece in pieces])


def judged(pieces, rule):
    check_rule(rule)
    if not are_pieces(pieces) or pieces == [] or not of_one_key(pieces):
        raise NoPiece("one piece or more is wanted, all of one key")
    reading = Reading(rule)
    for piece in pieces:
        answer = reading.answer_to(piece)
        if answer is not None:
            return answer
    return Lacking(reading.missing())


def by_key(pieces):
    told = {}
    for piece in pieces:
        told.setdefault(piece.key(), []).append(piece)
    return told


def read_all(pieces, rule):
    check_rule(rule)
    if not are_pieces(pieces):
        raise NoPiece("a list of pieces is wanted")
    parted = by_key(pieces)
    return [(key, judged(parted[key], rule)) for key in sorted(parted)]
