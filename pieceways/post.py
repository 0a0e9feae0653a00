"""The post: letters sent over roads, in pieces, and brought to a room as they arrive."""

from pieceways.checks import are_widths, is_name, is_whole_from
from pieceways.cutting import cut, cut_over
from pieceways.errors import NoLetter, NoRoad, NoTime
from pieceways.letters import Letter


def are_lost(value):
    if value is None:
        return True
    return isinstance(value, list) and all([is_whole_from(part, 0) for part in value])


class Road:
    def __init__(self, widths, delay, lost=None):
        if not are_widths(widths):
            raise NoRoad("widths are a list of one to twenty whole numbers from 8 to 5000")
        if not is_whole_from(delay, 0) or not are_lost(lost):
            raise NoRoad("a delay is a whole number from 0 on, and so is each one that is lost")
        # Copies, so that what is done to the lists that were handed in changes nothing here.
        self.widths = list(widths)
        self.delay = delay
        self.lost = [] if lost is None else list(lost)


class Post:
    def __init__(self):
        self.now = 0
        # By name: the road, and how many pieces were put on it. A road may be built under two names, so the count is
        # not the road's own.
        self.built = {}
        self.counts = {}
        # The time of arriving and the piece, in the order of sending.
        self.coming = []

    def build(self, name, road):
        if not is_name(name) or name in self.built:
            raise NoRoad("a road's name is one to eight small letters, and no other road's")
        if not isinstance(road, Road):
            raise NoRoad("a Road is wanted")
        self.built[name] = road
        self.counts[name] = 0

    def roads(self):
        return sorted(self.built)

    def send(self, time, letter, width, names):
        self.check_time(time)
        if not isinstance(letter, Letter):
            raise NoLetter("a Letter is wanted")
        if not self.are_built(names):
            raise NoRoad("one or more names of the post's roads are wanted")
        # All is cut ahead of the first change, for the last piece may be refused as well as the first.
        loads = self.loads_of(cut(letter, width), names)
        self.now = time
        for name, parts in loads:
            self.put_on_road(name, parts)
        return len(loads)

    def fetch(self, time):
        self.check_time(time)
        self.now = time
        arrived = [one for one in self.coming if one[0] <= time]
        self.coming = [one for one in self.coming if one[0] > time]
        # By the time alone: sorted leaves the order of sending where it is the same.
        return sorted(arrived, key=lambda one: one[0])

    def on_the_way(self):
        return len(self.coming)

    def next_time(self):
        return min([one[0] for one in self.coming], default=None)

    def check_time(self, time):
        if not is_whole_from(time, self.now):
            raise NoTime("a time is a whole number, not less than the post's")

    def are_built(self, names):
        if not isinstance(names, list) or names == []:
            return False
        return all([is_name(name) and name in self.built for name in names])

    # For each piece the road's name, and what comes of it on this road.
    def loads_of(self, pieces, names):
        loads = []
        for place, piece in enumerate(pieces):
            name = names[place % len(names)]
            loads.append((name, cut_over([piece], self.built[name].widths)))
        return loads

    def put_on_road(self, name, parts):
        road = self.built[name]
        if self.counts[name] not in road.lost:
            self.coming.extend([(self.now + road.delay, part) for part in parts])
        self.counts[name] = self.counts[name] + 1


def carry(post, room, time):
    # Ahead of the fetching: what the post tells, it tells no second time.
    if not is_whole_from(time, max(post.now, room.now)):
        raise NoTime("a time is a whole number, not less than the post's and the room's")
    events = []
    for arrived, piece in post.fetch(time):
        events.extend(room.come(max(arrived, room.now), piece))
    events.extend(room.tick(time))
    return events
