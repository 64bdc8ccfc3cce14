"""The orders, by each of which another gap is the first."""

from cosetyard.errors import NoOrder
from cosetyard.words import steps_of


class Order:
    def gap(self, rooms):
        return first_by_rooms(rooms, with_gaps(rooms))


class ByLetters(Order):
    def gap(self, rooms):
        left = with_gaps(rooms)
        for step in steps_of(rooms.letters):
            for room in left:
                if rooms.by(room, step) is None:
                    return (room, step)
        return None


class Newest(Order):
    def gap(self, rooms):
        return first_by_rooms(rooms, list(reversed(with_gaps(rooms))))


def order_by(name):
    if name == "rooms":
        return Order()
    if name == "letters":
        return ByLetters()
    if name == "newest":
        return Newest()
    raise NoOrder(f"there is no order {name!r}")


def with_gaps(rooms):
    return [room for room in rooms.standing() if not rooms.full(room)]


def first_by_rooms(rooms, left):
    for room in left:
        for step in steps_of(rooms.letters):
            if rooms.by(room, step) is None:
                return (room, step)
    return None
