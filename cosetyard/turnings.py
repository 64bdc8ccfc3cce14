"""Turnings: where a word leads the rooms of a table, the rings in which it does so, and where two words are parted."""

from cosetyard.tables import place_of


def turning(table, word):
    turned = list(range(len(table)))
    for step in word:
        place = place_of(step)
        turned = [table[room][place] for room in turned]
    return turned


def rings(turned):
    found = []
    ringed = [False] * len(turned)
    for room in range(len(turned)):
        if not ringed[room]:
            ring = ring_from(turned, room)
            for other in ring:
                ringed[other] = True
            found.append(ring)
    return found


def ring_from(turned, start):
    ring = [start]
    room = turned[start]
    while room != start:
        ring.append(room)
        room = turned[room]
    return ring


def times(turned):
    many = 1
    for ring in rings(turned):
        many = many // common_measure(many, len(ring)) * len(ring)
    return many


def common_measure(one, other):
    while other > 0:
        rest = one % other
        one = other
        other = rest
    return one


def parted(table, one, other):
    for room, ends in enumerate(zip(turning(table, one), turning(table, other))):
        if ends[0] != ends[1]:
            return room
    return None
