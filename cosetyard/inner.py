"""The part's own letters and rules, found in its table."""

from cosetyard.tables import led, place_of
from cosetyard.ways import least_ways
from cosetyard.words import back, thinned


def inner_letters(table):
    ways = least_ways(table)
    found = []
    for room, row in enumerate(table):
        for letter in range(1, len(row) // 2 + 1):
            if not is_tree_way(ways, room, letter, row[place_of(letter)]):
                found.append((room, letter))
    return found


def inner_words(table):
    ways = least_ways(table)
    words = []
    for room, letter in inner_letters(table):
        other = led(table, room, (letter,))
        words.append(thinned(ways[room] + (letter,) + back(ways[other])))
    return words


def told_in(table, room, word):
    return told_by(inner_numbers(table), table, room, places_of(word))


def inner_rules(table, rules):
    numbers = inner_numbers(table)
    walks = [places_of(rule) for rule in rules]
    # Kept as a dict, so that each stands there once, at the place where it came first.
    found = {}
    for room in range(len(table)):
        for places in walks:
            told = told_by(numbers, table, room, places)
            if len(told) > 0:
                found[told] = True
    return list(found)


# What comes ahead of the last step of a least way is a least way too, and only from one room does that step lead to
# the other. So the last steps alone tell it.
def is_tree_way(ways, room, step, other):
    return ways[other][-1:] == (step,) or ways[room][-1:] == (-step,)


# Rows like those of the table, with the number of the inner letter in the place of each room, and 0 for a tree way.
def inner_numbers(table):
    numbers = [[0] * len(row) for row in table]
    for number, way in enumerate(inner_letters(table), start=1):
        room = way[0]
        letter = way[1]
        other = table[room][place_of(letter)]
        numbers[room][place_of(letter)] = number
        numbers[other][place_of(-letter)] = -number
    return numbers


def places_of(word):
    return [place_of(step) for step in word]


def told_by(numbers, table, room, places):
    told = []
    for place in places:
        number = numbers[room][place]
        if number != 0:
            told.append(number)
        room = table[room][place]
    return thinned(told)
