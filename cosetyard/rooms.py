"""Rooms and the ways known between them, and the paper on which all that is done to them is written."""

from cosetyard.words import steps_of


class Rooms:
    def __init__(self, letters):
        self.letters = letters
        self.made = 1
        self.rows = []
        # For each room ever made: its known ways, a dict of the rooms by their steps. A way is kept together with its
        # back or not at all, so the ways of a room tell all those that lead to it too.
        self.ways = [{}]
        # For each room ever made: a dict of the steps by which no way is known from it, in the order of steps. A way of
        # a standing room may come to lead to another one, but it isn't lost, so no step comes back here.
        self.gaps = [all_gaps(letters)]
        self.elders = [0]
        # For each standing room the numbers that are called by it.
        self.called = [[0]]
        # The rooms that went, one behind the other.
        self.went = []

    def make(self, room, step):
        number = self.made
        self.made = number + 1
        self.rows.append(("new", room, step, number))
        self.ways.append({})
        self.gaps.append(all_gaps(self.letters))
        self.elders.append(number)
        self.called.append([number])
        self.keep(room, step, number)
        return number

    def lay(self, room, step, other, row):
        self.rows.append(own(row))
        # Ways that are known by the paper, but not kept yet.
        pending = [(room, step, other)]
        while pending:
            self.take_in(pending.pop(), pending)

    def by(self, room, step):
        return self.ways[room].get(step)

    def elder(self, room):
        return self.elders[room]

    def standing(self):
        return [room for room in range(self.made) if self.elders[room] == room]

    def paper(self):
        return [own(row) for row in self.rows]

    def first_gap(self, room):
        for step in self.gaps[room]:
            return step
        return None

    def keep(self, room, step, other):
        self.ways[room][step] = other
        self.ways[other][-step] = room
        self.gaps[room].pop(step, None)
        self.gaps[other].pop(-step, None)

    def take_in(self, way, pending):
        # Since the way was put off, its rooms may have gone.
        room = self.elders[way[0]]
        step = way[1]
        other = self.elders[way[2]]
        led_to = self.ways[room].get(step, other)
        come_from = self.ways[other].get(-step, room)
        # Where two rooms are put together, the way that was kept by this step becomes the one to be taken in.
        if led_to != other:
            self.put_together(room, step, led_to, other, pending)
        elif come_from != room:
            self.put_together(other, -step, come_from, room, pending)
        else:
            self.keep(room, step, other)

    def put_together(self, room, step, one, other, pending):
        less = min(one, other)
        more = max(one, other)
        self.rows.append(("meet", room, step, less, more))
        self.went.append(more)
        for number in self.called[more]:
            self.elders[number] = less
        self.called[less].extend(self.called[more])
        self.put_off(more, pending)

    def put_off(self, room, pending):
        ways = self.ways[room]
        self.ways[room] = {}
        for step in list(ways):
            other = ways[step]
            if other != room:
                self.ways[other].pop(-step)
            pending.append((room, step, other))


def all_gaps(letters):
    return dict([(step, True) for step in steps_of(letters)])


# A row of the asker's may hold lists or dicts, and what the asker does to these must not reach the paper.
def own(value):
    if isinstance(value, tuple):
        return tuple([own(part) for part in value])
    if isinstance(value, list):
        return [own(part) for part in value]
    if isinstance(value, dict):
        return dict([(key, own(value[key])) for key in value])
    return value
