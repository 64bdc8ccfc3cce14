"""The judge: walks a paper row by row, knowing nothing of filling, and tells the first row that isn't right."""


def judged(letters, rules, part, paper):
    judge = Judge(letters, rules, part)
    for place, row in enumerate(paper):
        if not judge.takes(row):
            return place
    return None


class Judge:
    def __init__(self, letters, rules, part):
        self.letters = letters
        self.words = list(rules) + list(part)
        self.common = len(rules)
        self.made = 1
        # For each standing room, by step: a dict of the rooms to which ways are known. There may be several until rows
        # "meet" put these together. A way is kept together with its back or not at all.
        self.known = {0: {}}

    def takes(self, row):
        if row[0] == "new":
            return self.takes_new(row[1], row[2], row[3])
        if row[0] == "rule":
            return self.takes_rule(row[1], row[2], row[3])
        return self.takes_meet(row[1], row[2], row[3], row[4])

    def takes_new(self, room, step, number):
        if not self.stands(room) or not 1 <= abs(step) <= self.letters:
            return False
        if step in self.known[room] or number != self.made:
            return False
        self.made = self.made + 1
        self.known[number] = {}
        self.learn(room, step, number)
        return True

    def takes_rule(self, which, path, at):
        if not 0 <= which < len(self.words):
            return False
        word = self.words[which]
        if not 0 <= at < len(word) or not self.fits(which, path):
            return False
        for place, step in enumerate(word):
            if place != at and not self.knows(path[place], step, path[place + 1]):
                return False
        self.learn(path[at], word[at], path[at + 1])
        return True

    def takes_meet(self, room, step, less, more):
        if less >= more or not self.knows(room, step, less) or not self.knows(room, step, more):
            return False
        self.put_in_place(less, more)
        return True

    def stands(self, room):
        return room in self.known

    def fits(self, which, path):
        if len(path) != len(self.words[which]) + 1 or path[0] != path[-1]:
            return False
        # Behind the rules stand the part's words, which are gone round from room 0 alone.
        if which >= self.common and path[0] != 0:
            return False
        return all([self.stands(room) for room in path])

    def knows(self, room, step, other):
        return other in self.known.get(room, {}).get(step, {})

    def learn(self, room, step, other):
        led_to = self.known[room].setdefault(step, {})
        led_to[other] = True
        come_from = self.known[other].setdefault(-step, {})
        come_from[room] = True

    def put_in_place(self, less, more):
        gone_by = self.known.pop(more)
        for step in gone_by:
            for other in gone_by[step]:
                if other == more:
                    self.learn(less, step, less)
                else:
                    self.known[other][-step].pop(more)
                    self.learn(less, step, other)
