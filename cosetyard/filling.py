"""Filling: rooms are made at gaps, one after the other, until there is no gap any more."""

from cosetyard.closing import Closing
from cosetyard.errors import TooMany
from cosetyard.orders import order_by
from cosetyard.rooms import Rooms
from cosetyard.tables import numbered


def fill(letters, rules, part, limit, order="rooms"):
    # A wrong name is refused ahead of all else, so the order is looked for first.
    chosen = order_by(order)
    rooms = Rooms(letters)
    closing = Closing(rooms, rules, part)
    closing.settle()
    gap = chosen.gap(rooms)
    while gap is not None:
        if rooms.made >= limit:
            raise TooMany(rooms.made, rooms.paper())
        closing.make(gap[0], gap[1])
        gap = chosen.gap(rooms)
    return (numbered(rooms), rooms.paper())
