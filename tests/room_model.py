"""A plain room of the tests' own: it keeps the pieces as they came, and reads them all again at each coming."""

from plain_model import read_byte_by_byte, strange_behind


def plain(event):
    """An event as plain values."""
    if event[0] == "whole":
        letter = event[1]
        return ("whole", letter.key(), list(letter.body), letter.keep)
    return event


def inside(thing):
    """All that a thing holds, as plain values, so that it can be compared with what it holds later."""
    if isinstance(thing, (list, tuple)):
        return [inside(part) for part in thing]
    if isinstance(thing, dict):
        return [(inside(key), inside(thing[key])) for key in thing]
    if hasattr(thing, "__dict__"):
        return (type(thing).__name__, inside(vars(thing)))
    return thing


def numbers_of(pieces):
    return {number for piece in pieces for number in range(piece.at, piece.at + len(piece.body))}


class RoomModel:
    def __init__(self, rule, wait, space, out, again):
        self.rule = rule
        self.wait = wait
        self.space = space
        self.out = out
        self.again = again
        self.now = 0
        self.begun = {}
        self.taken = {}
        self.wholes = []

    def forget(self, key):
        self.begun.pop(key, None)
        self.taken.pop(key, None)

    def tick(self, time):
        self.now = time
        over = sorted((begun, key) for key, begun in self.begun.items() if time >= begun + self.wait)
        for begun, key in over:
            self.forget(key)
        return [("gone", key, "wait") for begun, key in over]

    def rests(self, key):
        times = [time for time, told in self.wholes if told == key]
        return self.again == "rest" and times != [] and self.now < times[-1] + self.wait

    def come(self, time, piece):
        return self.tick(time) + self.brought(piece.key(), piece)

    def brought(self, key, piece):
        if self.rests(key):
            return [("late", key)]
        taken = self.taken.get(key, [])
        if strange_behind(taken, piece) and self.rule in ["first", "last"]:
            return [("strange", key)]
        kind, fields = read_byte_by_byte(taken + [piece], self.rule)
        if kind == "Lacking":
            return self.with_space_for(key, taken + [piece])
        self.forget(key)
        if kind == "Unlike":
            return [("gone", key, "unlike")]
        self.wholes.append((self.now, key))
        return [("whole", key, fields["body"], False)]

    def with_space_for(self, own, pieces):
        self.taken[own] = pieces
        self.begun.setdefault(own, self.now)
        if self.bytes_kept() <= self.space:
            return []
        if self.out == "own" or len(numbers_of(pieces)) > self.space:
            self.forget(own)
            return [("gone", own, "room")]
        others = sorted(key for key in self.taken if key != own)
        if self.out == "oldest":
            others.sort(key=lambda key: self.begun[key])
        else:
            others.sort(key=lambda key: len(numbers_of(self.taken[key])), reverse=True)
        events = []
        for key in others:
            if self.bytes_kept() > self.space:
                self.forget(key)
                events.append(("gone", key, "room"))
        return events

    def kept(self):
        return sorted(self.taken)

    def bytes_kept(self):
        return sum(len(numbers_of(pieces)) for pieces in self.taken.values())

    def lacks(self, key):
        return read_byte_by_byte(self.taken[key], self.rule)[1]["spans"]

    def since(self, key):
        return self.begun[key]

    def ends_at(self):
        return min(self.begun.values()) + self.wait if self.begun else None
