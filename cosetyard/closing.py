"""Closing: the ways that follow from the rules and the part's words are laid, until each of them is known."""


def gone(rooms, room, word):
    path = walked(rooms, room, word)
    return (len(path) - 1, path[-1])


def close(rooms, rules, part):
    Closing(rooms, rules, part).settle()


def walked(rooms, room, word):
    path = [room]
    for step in word:
        room = rooms.by(room, step)
        if room is None:
            break
        path.append(room)
    return path


# From a rule that stands there once more nothing more follows, so the first of its places is enough.
def first_places(rules):
    places = {}
    for which, rule in enumerate(rules):
        places.setdefault(rule, which)
    return places


# A word gone round from a room, from its beginning and from its end, as far as known ways lead. Between front and rear
# lie the steps from the place first to the place last; when these are one place, its step leads from front to rear.
class Going:
    def __init__(self, which, word, start):
        self.which = which
        self.word = word
        self.start = start
        self.front = start
        self.first = 0
        self.rear = start
        self.last = len(word) - 1

    def advance(self, rooms):
        # Where rooms were put together since, the ways gone so far lead to those that stand in their place.
        self.front = rooms.elder(self.front)
        self.rear = rooms.elder(self.rear)
        while self.first < self.last:
            room = rooms.by(self.front, self.word[self.first])
            if room is None:
                break
            self.front = room
            self.first = self.first + 1
        while self.first < self.last:
            room = rooms.by(self.rear, -self.word[self.last])
            if room is None:
                break
            self.rear = room
            self.last = self.last - 1

    def row(self, rooms):
        ahead = walked(rooms, self.start, self.word[:self.first])
        behind = walked(rooms, self.rear, self.word[self.last + 1:])
        return ("rule", self.which, tuple(ahead + behind), self.first)


# To go round each word from each room again after each way laid would take far too long. So a going that can't go on
# waits at the two gaps that stop it, and is gone on with only when one of these is no gap any more.
class Closing:
    def __init__(self, rooms, rules, part):
        self.rooms = rooms
        self.rules = first_places(rules)
        self.goings = []
        self.agenda = []
        # By room, then by step: a dict with the numbers of the goings that wait at that gap.
        self.waiting = {}
        self.heard = len(rooms.went)
        for room in rooms.standing():
            self.begin_rules(room)
        for which, word in enumerate(part, start=len(rules)):
            self.begin(which, word, 0)

    def begin_rules(self, room):
        for rule, which in self.rules.items():
            self.begin(which, rule, room)

    def begin(self, which, word, room):
        if len(word) > 0:
            self.agenda.append(len(self.goings))
            self.goings.append(Going(which, word, room))

    def settle(self):
        while self.agenda:
            self.go_on(self.agenda.pop())

    def make(self, room, step):
        self.begin_rules(self.rooms.make(room, step))
        self.wake(room, step)
        self.settle()

    def go_on(self, number):
        going = self.goings[number]
        if going is None:
            return
        if self.rooms.elder(going.start) != going.start:
            # The room in its place has a going of its own by the same word.
            self.goings[number] = None
            return
        going.advance(self.rooms)
        if going.first < going.last:
            self.wait(number, going.front, going.word[going.first])
            self.wait(number, going.rear, -going.word[going.last])
        else:
            # All of the word is known from its start then, and stays so: nothing follows from this going any more.
            self.goings[number] = None
            self.lay(going)

    def wait(self, number, room, step):
        steps = self.waiting.setdefault(room, {})
        numbers = steps.setdefault(step, {})
        numbers[number] = True

    def lay(self, going):
        step = going.word[going.first]
        if self.rooms.by(going.front, step) == going.rear:
            return
        self.rooms.lay(going.front, step, going.rear, going.row(self.rooms))
        self.wake(going.front, step)
        self.wake(going.rear, -step)
        self.hear()

    def wake(self, room, step):
        self.agenda.extend(list(self.waiting.get(room, {}).pop(step, {})))

    def hear(self):
        while self.heard < len(self.rooms.went):
            self.wake_all(self.rooms.went[self.heard])
            self.heard = self.heard + 1

    def wake_all(self, room):
        for step in list(self.waiting.get(room, {})):
            self.wake(room, step)
        # The room in its place may have got ways that it didn't have.
        elder = self.rooms.elder(room)
        for step in list(self.waiting.get(elder, {})):
            if self.rooms.by(elder, step) is not None:
                self.wake(elder, step)
