"""The room: it puts letters together out of the pieces that come, within a wait and a space."""

from pieceways.checks import is_again, is_key, is_out, is_rule, is_whole_from
from pieceways.errors import NoKey, NoPiece, NoRule, NoTime
from pieceways.letters import Letter, Piece
from pieceways.plain import Reading, Whole


class Room:
    def __init__(self, rule, wait, space, out, again):
        if not is_rule(rule):
            raise NoRule("a rule is first, last or refuse")
        if not is_whole_from(wait, 1) or not is_whole_from(space, 1):
            raise NoRule("a wait and a space are whole numbers from 1 on")
        if not is_out(out) or not is_again(again):
            raise NoRule("out is oldest, widest or own; again is fresh or rest")
        self.rule = rule
        self.wait = wait
        self.space = space
        self.out = out
        self.again = again
        self.now = 0
        # By key: what was taken of the kept ones, and the time of their first piece.
        self.readings = {}
        self.firsts = {}
        # By key: when it was told as whole the last time.
        self.wholes = {}

    def come(self, time, piece):
        self.check_time(time)
        if not isinstance(piece, Piece):
            raise NoPiece("a Piece is wanted")
        self.now = time
        # The waits end ahead of the piece: one of a key that is let go now begins anew.
        events = self.end_waits()
        events.extend(self.take_in(piece))
        return events

    def tick(self, time):
        self.check_time(time)
        self.now = time
        return self.end_waits()

    def kept(self):
        return sorted(self.readings)

    def bytes_kept(self):
        return sum([self.readings[key].size() for key in self.readings])

    def lacks(self, key):
        self.check_kept(key)
        return self.readings[key].missing()

    def since(self, key):
        self.check_kept(key)
        return self.firsts[key]

    def ends_at(self):
        return min([self.firsts[key] + self.wait for key in self.firsts], default=None)

    def check_time(self, time):
        if not is_whole_from(time, self.now):
            raise NoTime("a time is a whole number, not less than the room's")

    def check_kept(self, key):
        if not is_key(key) or key not in self.readings:
            raise NoKey("the room keeps no such key")

    def let_go(self, key):
        self.readings.pop(key)
        self.firsts.pop(key)

    def end_waits(self):
        over = [(self.firsts[key], key) for key in self.firsts if self.firsts[key] + self.wait <= self.now]
        events = []
        for first, key in sorted(over):
            self.let_go(key)
            events.append(("gone", key, "wait"))
        return events

    def is_resting(self, key):
        return self.again == "rest" and key in self.wholes and self.now < self.wholes[key] + self.wait

    def take_in(self, piece):
        key = piece.key()
        if self.is_resting(key):
            return [("late", key)]
        # A key that is not kept is kept from here on; where that is not to stay, it is let go below.
        reading = self.readings.setdefault(key, Reading(self.rule))
        self.firsts.setdefault(key, self.now)
        if self.rule != "refuse" and reading.is_strange(piece):
            return [("strange", key)]
        answer = reading.answer_to(piece)
        if answer is None:
            return self.make_space(key)
        self.let_go(key)
        if isinstance(answer, Whole):
            self.wholes[key] = self.now
            return [("whole", Letter(key[0], key[1], key[2], answer.body))]
        return [("gone", key, "unlike")]

    def make_space(self, own):
        events = []
        while self.bytes_kept() > self.space:
            key = self.first_out(own)
            self.let_go(key)
            events.append(("gone", key, "room"))
        return events

    def first_out(self, own):
        # Where the piece's own key is too much by itself, letting others go would not help.
        if self.out == "own" or self.readings[own].size() > self.space:
            return own
        others = [key for key in self.readings if key != own]
        if self.out == "oldest":
            return min([(self.firsts[key], key) for key in others])[1]
        return min([(-self.readings[key].size(), key) for key in others])[1]
