"""Tables: for each room a row with the rooms to which the steps lead from it, in the order of steps."""

from cosetyard.words import steps_of


def numbered(rooms):
    steps = steps_of(rooms.letters)
    found = [0]
    numbers = {0: 0}
    rows = []
    while len(rows) < len(found):
        others = [rooms.by(found[len(rows)], step) for step in steps]
        for other in others:
            if other not in numbers:
                numbers[other] = len(found)
                found.append(other)
        rows.append([numbers[other] for other in others])
    return rows


def led(table, room, word):
    for step in word:
        room = table[room][place_of(step)]
    return room


def place_of(step):
    if step > 0:
        return 2 * step - 2
    return -2 * step - 1
