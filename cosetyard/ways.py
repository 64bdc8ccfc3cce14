"""Least ways: to each room the first of the shortest words that lead to it from room 0."""

from cosetyard.words import steps_of


# By its numbers a table tells its rooms in the order in which words, the least ones first, come to them. So each room
# is come to by its least way when the rooms and their steps are gone through in order.
def least_ways(table):
    steps = steps_of(len(table[0]) // 2)
    ways = {0: ()}
    for room, row in enumerate(table):
        for step, other in zip(steps, row):
            if other not in ways:
                ways[other] = ways[room] + (step,)
    return [ways[room] for room in range(len(table))]
