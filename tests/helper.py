"""What several tests share: a walker of papers and a plain reckoning of rooms, both straight from the document."""

from cosetyard.rooms import Rooms


def steps_in_order(letters):
    return [step for letter in range(1, letters + 1) for step in (letter, -letter)]


def known_ways(rooms):
    """All that a Rooms tells of its ways: {(room, step): other}."""
    told = {}
    for room in rooms.standing():
        for step in steps_in_order(rooms.letters):
            other = rooms.by(room, step)
            if other is not None:
                told[room, step] = other
    return told


def state(rooms):
    return (rooms.letters, rooms.made, rooms.standing(), known_ways(rooms),
            [rooms.elder(room) for room in range(rooms.made)], rooms.paper())


KEYS = {"rooms": lambda gap: gap, "letters": lambda gap: gap[::-1], "newest": lambda gap: (-gap[0], gap[1])}


def first_gap(order, letters, standing, known):
    """By the words of point 16, out of all gaps; the ways known are the keys of `known`."""
    steps = steps_in_order(letters)
    gaps = [(room, place) for room in standing for place, step in enumerate(steps) if (room, step) not in known]
    if not gaps:
        return None
    room, place = min(gaps, key=KEYS[order])
    return (room, steps[place])


class Chance:
    """Numbers without order, but the same at each run and under each Python."""

    def __init__(self, seed):
        self.seed = seed * 2 + 1

    def below(self, bound):
        self.seed = (self.seed * 6364136223846793005 + 1442695040888963407) % (1 << 64)
        return (self.seed >> 33) % bound

    def one_of(self, things):
        return things[self.below(len(things))]


def some_word(chance, letters, most):
    return tuple(chance.one_of(steps_in_order(letters)) for place in range(chance.below(most + 1)))


class Walker:
    """Walks a paper row by row with nothing but point 12 in hand. What a row of the asker's makes known is told it by
    `asked`, a list of (row, way) in the order of the laying."""

    def __init__(self, case, letters, rules=(), part=(), asked=()):
        self.case = case
        self.steps = steps_in_order(letters)
        self.words = list(rules) + list(part)
        self.rules = len(rules)
        self.asked = list(asked)
        self.made = 1
        self.left = {0}
        self.known = {}
        self.clashes = set()
        self.called = {0: 0}
        self.counts = {"new": 0, "rule": 0, "meet": 0, "asked": 0}

    def walk(self, paper):
        for place, row in enumerate(paper):
            self.step_on(row, f"row {place}: {row}"[:400])
        self.case.assertEqual(self.clashes, set(), "a row meet is left out at the end")
        self.case.assertEqual(self.asked, [], "rows of the asker's are left out")
        return self

    def step_on(self, row, told):
        self.case.assertIs(type(row), tuple, told)
        if row[:1] == ("meet",) and self.clashes:
            self.meet(row, told)
            return
        self.case.assertEqual(self.clashes, set(), f"a row meet is left out ahead of {told}")
        if self.asked and row == self.asked[0][0]:
            self.counts["asked"] += 1
            self.learn(*self.asked.pop(0)[1])
        elif row[0] == "new":
            self.new(row, told)
        else:
            self.case.assertEqual(row[0], "rule", told)
            self.rule(row, told)

    def new(self, row, told):
        kind, room, step, number = row
        self.case.assertIn(room, self.left, told)
        self.case.assertIn(step, self.steps, told)
        self.case.assertFalse(self.known.get((room, step)), told)
        self.case.assertEqual(number, self.made, told)
        self.made += 1
        self.left.add(number)
        self.called[number] = number
        self.counts[kind] += 1
        self.learn(room, step, number)

    def rule(self, row, told):
        kind, which, path, at = row
        self.case.assertIn(which, range(len(self.words)), told)
        word = self.words[which]
        self.case.assertIn(at, range(len(word)), told)
        self.case.assertIs(type(path), tuple, told)
        self.case.assertEqual(len(path), len(word) + 1, told)
        self.case.assertLessEqual(set(path), self.left, told)
        self.case.assertEqual(path[0], path[-1], told)
        if which >= self.rules:
            self.case.assertEqual(path[0], 0, told)
        for place, step in enumerate(word):
            if place != at:
                self.case.assertIn(path[place + 1], self.known.get((path[place], step), ()), told)
        self.counts[kind] += 1
        self.learn(path[at], word[at], path[at + 1])

    def meet(self, row, told):
        kind, room, step, less, more = row
        self.case.assertLess(less, more, told)
        self.case.assertIn(less, self.known.get((room, step), ()), told)
        self.case.assertIn(more, self.known.get((room, step), ()), told)
        ways = [(a, s, b) for (a, s), others in self.known.items() for b in others]
        self.known = {}
        self.clashes = set()
        for a, s, b in ways:
            self.learn(less if a == more else a, s, less if b == more else b)
        self.left.discard(more)
        for number, name in self.called.items():
            if name == more:
                self.called[number] = less
        self.counts[kind] += 1

    def learn(self, room, step, other):
        for a, s, b in [(room, step, other), (other, -step, room)]:
            others = self.known.setdefault((a, s), set())
            others.add(b)
            if len(others) > 1:
                self.clashes.add((a, s))

    def assert_same(self, rooms):
        self.case.assertEqual(rooms.made, self.made)
        self.case.assertEqual(rooms.standing(), sorted(self.left))
        self.case.assertEqual([rooms.elder(room) for room in range(rooms.made)],
                              [self.called[room] for room in range(self.made)])
        self.case.assertEqual(known_ways(rooms), {key: min(others) for key, others in self.known.items()})


class Plain:
    """All ways ever made known, and what they come to, reckoned anew from the beginning each time."""

    def __init__(self, letters):
        self.letters = letters
        self.made = 1
        self.ways = []
        self.reckon()

    def make(self, room, step):
        self.made += 1
        self.lay(room, step, self.made - 1)

    def lay(self, room, step, other):
        self.ways.extend([(room, step, other), (other, -step, room)])
        self.reckon()

    def reckon(self):
        called = list(range(self.made))
        again = True
        while again:
            again = False
            known = {}
            for room, step, other in self.ways:
                less, more = sorted([called[other], known.setdefault((called[room], step), called[other])])
                if less < more:
                    called = [less if name == more else name for name in called]
                    again = True
                    break
        self.called = called
        self.known = known
        self.standing = sorted(set(called))

    def gone_to(self, room, word):
        for step in word:
            room = self.known.get((room, step))
            if room is None:
                return None
        return room

    def follows(self, rules, part):
        """All ways that follow, by the words of point 14."""
        found = []
        for word, rooms in [(rule, self.standing) for rule in rules] + [(word, [0]) for word in part]:
            for c in rooms:
                for at, step in enumerate(word):
                    a = self.gone_to(c, word[:at])
                    if a is not None:
                        found.extend((a, step, b) for b in self.standing if self.gone_to(b, word[at + 1:]) == c)
        return found

    def close(self, rules, part):
        while True:
            ways = [way for way in self.follows(rules, part) if self.known.get(way[:2]) != way[2]]
            if not ways:
                return self
            self.lay(*ways[0])

    def assert_same(self, case, rooms):
        case.assertEqual(rooms.made, self.made)
        case.assertEqual(rooms.standing(), self.standing)
        case.assertEqual([rooms.elder(room) for room in range(rooms.made)], self.called)
        case.assertEqual(known_ways(rooms), self.known)


class Built:
    """A Rooms and a Plain to which the same is done."""

    def __init__(self, letters):
        self.rooms = Rooms(letters)
        self.plain = Plain(letters)
        self.asked = []

    def make(self, room, step):
        number = self.rooms.make(room, step)
        self.plain.make(room, step)
        return number

    def lay(self, room, step, other):
        row = ("asked", len(self.asked), (room, step, other))
        self.asked.append((row, (room, step, other)))
        self.plain.lay(room, step, other)
        return self.rooms.lay(room, step, other, row)

    def gaps(self):
        return [(room, step) for room in self.plain.standing for step in steps_in_order(self.plain.letters)
                if (room, step) not in self.plain.known]

    def grow(self, chance, deeds, ways_laid):
        """So many deeds, of which some in a hundred lay a way and all others make a room."""
        for deed in range(deeds):
            gaps = self.gaps()
            if gaps and chance.below(100) >= ways_laid:
                self.make(*chance.one_of(gaps))
            else:
                step = chance.one_of(steps_in_order(self.plain.letters))
                self.lay(chance.one_of(self.plain.standing), step, chance.one_of(self.plain.standing))
        return self


def long_row(many, letters=1):
    """So many rooms, one behind the other by the letter 1."""
    rooms = Rooms(letters)
    for room in range(many - 1):
        rooms.make(room, 1)
    return rooms


def in_a_row(size):
    """Rooms in a row: the letters 1 and 2 change neighbours by turns, the letter 3 changes the last two alone."""
    table = [[room] * 6 for room in range(size)]
    for room in range(size - 1):
        for place in [2 * (room % 2), 2 * (room % 2) + 1] + [4, 5] * (room == size - 2):
            table[room][place] = room + 1
            table[room + 1][place] = room
    return table


def ring_table(size):
    """The table of one ring, in which the rooms stand by turns behind and ahead of room 0."""
    places = [(room + 1) // 2 if room % 2 else size - room // 2 for room in range(size)]
    numbers = {place % size: room for room, place in enumerate(places)}
    return [[numbers[(place + 1) % size], numbers[(place - 1) % size]] for place in places]


def ring(size):
    return [(1,) * size]


def mirrors(size):
    """The turns of a ring and its mirrors: two times as many as the ring has rooms."""
    return [(1,) * size, (2, 2), (1, 2, 1, 2)]


def rings_beside(one, other):
    return [(1,) * one, (2,) * other, (1, 2, -1, -2)]


# The turnings of three points and of four, by changes of neighbours, and of four by a turn of all and a change of two.
THREE_POINTS = [(1, 1), (2, 2), (1, 2) * 3]
FOUR_POINTS = [(1, 1), (2, 2), (3, 3), (1, 2) * 3, (2, 3) * 3, (1, 3) * 2]
FOUR_BY_TURN = [(1,) * 4, (2, 2), (1, 2) * 3]
# Those of five points that are made of an even number of changes.
FIVE_EVEN = [(1, 1), (2,) * 3, (1, 2) * 5]
EIGHT_ODD = [(1,) * 4, (1, 1, -2, -2), (1, 2, 1, -2)]

# Each with its letters, rules, part and the number of its rooms, known without any filling.
GROUPS = [
    (1, ring(1), [], 1), (1, ring(2), [], 2), (1, ring(7), [], 7), (1, ring(12), [], 12), (1, [(-1,) * 5], [], 5),
    (1, ring(12), [(1,) * 8], 4), (1, ring(12), [(1,) * 5], 1), (1, ring(12), [(1,) * 12], 12),
    (1, [(1,) * 12, (1,) * 18], [], 6), (1, [(1,) * 12, (1,) * 18], [(1, 1)], 2), (1, [(1, 1), (1, 1, 1)], [], 1),
    (2, mirrors(3), [], 6), (2, mirrors(4), [], 8), (2, mirrors(9), [], 18), (2, mirrors(9), [(2,)], 9),
    (2, mirrors(9), [(1,)], 2), (2, mirrors(9), [(1, 2)], 9), (2, mirrors(9), [(1,) * 3, (2,)], 3),
    (2, rings_beside(3, 4), [], 12), (2, rings_beside(3, 4), [(1,)], 4), (2, rings_beside(3, 4), [(1, 2)], 1),
    (2, rings_beside(2, 4), [(1, 2)], 2), (2, rings_beside(5, 5), [], 25), (2, rings_beside(1, 6), [], 6),
    (2, THREE_POINTS, [], 6), (2, THREE_POINTS, [(1,)], 3), (2, THREE_POINTS, [(1, 2)], 2),
    (3, FOUR_POINTS, [], 24), (3, FOUR_POINTS, [(1,), (2,)], 4), (3, FOUR_POINTS, [(1,), (3,)], 6),
    (2, FOUR_BY_TURN, [], 24), (2, FOUR_BY_TURN, [(1,)], 6), (2, FOUR_BY_TURN, [(2,)], 12),
    (2, FIVE_EVEN, [], 60), (2, FIVE_EVEN, [(1, 2)], 12), (2, FIVE_EVEN, [(2,)], 20), (2, EIGHT_ODD, [], 8),
    (2, [(1,), (2,)], [], 1), (3, [(1,), (2,), (3,)], [], 1), (2, [(1, 2), (1,)], [], 1),
    (2, FIVE_EVEN, [(1,), (2,)], 1), (1, [], [(1,)], 1), (2, [], [(1,), (2,)], 1), (1, [], [(1, 1, 1)], 3),
    (2, [], [(1, 1), (2,), (1, 2, -1)], 2), (2, [(), (1, 1), (), (2,), ()], [(), ()], 2),
]
