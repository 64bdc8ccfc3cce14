"""Kin: how one group's letters can be led by the rooms of another group's table, and whether two groups are alike."""

from cosetyard.errors import TooGreat
from cosetyard.filling import fill
from cosetyard.tables import led, place_of
from cosetyard.turnings import turning
from cosetyard.ways import least_ways
from cosetyard.words import filled_in

MOST_LISTS = 5000


def carries(rules, table, images):
    for rule in rules:
        if led(table, 0, filled_in(rule, images)) != 0:
            return False
    return True


def homes(letters, rules, table):
    check_lists(len(table), letters)
    return homes_by(Moves(table), letters, rules)


def onto(table, home):
    return comes_to_all(Moves(table), home)


def kin(one, other, limit):
    first = fill(one[0], one[1], [], limit)[0]
    second = fill(other[0], other[1], [], limit)[0]
    if len(first) != len(second):
        return ("rooms", len(first), len(second))
    found = homes_onto(one, second)
    if len(found) == 0:
        return ("onto", 0, len(homes_onto(other, second)))
    ways = least_ways(second)
    forth = [ways[room] for room in found[0]]
    return ("kin", forth, ways_back(first, second, forth))


def homes_onto(group, table):
    check_lists(len(table), group[0])
    moves = Moves(table)
    return [home for home in homes_by(moves, group[0], group[1]) if comes_to_all(moves, home)]


def check_lists(rooms, letters):
    many = 1
    for letter in range(letters):
        many = many * rooms
        # Asked at each letter, so that no number of many figures is made.
        if many > MOST_LISTS:
            raise TooGreat(f"there are more than {MOST_LISTS} lists of {letters} out of {rooms} rooms")


# The turnings of the least ways to the rooms of a table, and of these ways' backs.
class Moves:
    def __init__(self, table):
        self.many = len(table)
        self.forth = turned_by_least_ways(table)
        # Many are never asked for, so each is made when it is.
        self.behind = {}

    def by_home(self, home, step):
        room = home[abs(step) - 1]
        if step > 0:
            return self.forth[room]
        if room not in self.behind:
            self.behind[room] = turned_back(self.forth[room])
        return self.behind[room]


def turned_by_least_ways(table):
    ways = least_ways(table)
    turned = [turning(table, ())]
    for room in range(1, len(table)):
        step = ways[room][-1]
        # The room behind the way's other steps is a lesser one, whose turning is there already.
        ahead = turned[table[room][place_of(-step)]]
        place = place_of(step)
        turned.append([table[other][place] for other in ahead])
    return turned


def turned_back(turned):
    rooms = [0] * len(turned)
    for room, other in enumerate(turned):
        rooms[other] = room
    return rooms


def homes_by(moves, letters, rules):
    found = [[]]
    # A rule is asked as soon as the rooms of all its letters are there, for what it refuses needn't be made longer.
    for letter in range(1, letters + 1):
        due = [rule for rule in rules if greatest_letter(rule) == letter]
        found = longer(found, due, moves)
    return found


def greatest_letter(rule):
    return max([abs(step) for step in rule], default=0)


def longer(lists, due, moves):
    found = []
    for rooms in lists:
        for room in range(moves.many):
            home = rooms + [room]
            if all([leads_home(moves, home, rule) for rule in due]):
                found.append(home)
    return found


def leads_home(moves, home, rule):
    turned = {}
    for step in rule:
        if step not in turned:
            turned[step] = moves.by_home(home, step)
    room = 0
    for step in rule:
        room = turned[step][room]
    return room == 0


# Backs needn't be gone: a turning gone often enough brings each room back, so what is come to by its back is come to
# by itself too.
def comes_to_all(moves, home):
    found = [0]
    reached = {0: True}
    at = 0
    while at < len(found):
        for room in home:
            other = moves.forth[room][found[at]]
            if other not in reached:
                reached[other] = True
                found.append(other)
        at = at + 1
    return len(found) == moves.many


def ways_back(first, second, forth):
    ways = {}
    for way in least_ways(first):
        ways[led(second, 0, filled_in(way, forth))] = way
    letters = len(second[0]) // 2
    return [ways[led(second, 0, (letter,))] for letter in range(1, letters + 1)]
