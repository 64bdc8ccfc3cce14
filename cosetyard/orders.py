"""The orders, by each of which another gap is the first."""

from cosetyard.errors import NoOrder
from cosetyard.tables import place_of


class Order:
    def gap(self, rooms):
        return first_of(rooms, rooms.standing())


class ByLetters(Order):
    def gap(self, rooms):
        gaps = [(room, rooms.first_gap(room)) for room in rooms.standing() if rooms.first_gap(room) is not None]
        # Standing rooms come least first, and of gaps by the same step the first one is taken.
        return min(gaps, key=lambda gap: place_of(gap[1]), default=None)


class Newest(Order):
    def gap(self, rooms):
        return first_of(rooms, list(reversed(rooms.standing())))


def order_by(name):
    if name == "rooms":
        return Order()
    if name == "letters":
        return ByLetters()
    if name == "newest":
        return Newest()
    raise NoOrder(f"there is no order {name!r}")


def first_of(rooms, some):
    for room in some:
        step = rooms.first_gap(room)
        if step is not None:
            return (room, step)
    return None
