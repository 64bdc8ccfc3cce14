import copy
import itertools
import unittest

from cosetyard.closing import close
from cosetyard.orders import order_by
from cosetyard.rooms import Rooms
from cosetyard.tables import led, numbered
from helper import known_ways, long_row, state, steps_in_order


def filled(letters, rules, part, order):
    """A Rooms without a gap, and with rooms gone where rooms were made that weren't wanted."""
    rooms = Rooms(letters)
    close(rooms, rules, part)
    while order_by(order).gap(rooms) is not None:
        rooms.make(*order_by(order).gap(rooms))
        close(rooms, rules, part)
    return rooms


def numbered_by_hand(rooms):
    """By the words of point 18, but found through least words: the rooms in the order in which words come to them."""
    steps = steps_in_order(rooms.letters)
    known = known_ways(rooms)
    names = [0]
    for size in range(len(rooms.standing())):
        for word in itertools.product(steps, repeat=size):
            room = 0
            for step in word:
                room = known[room, step]
            if room not in names:
                names.append(room)
        if len(names) == len(rooms.standing()):
            return [[names.index(known[room, step]) for step in steps] for room in names]


class Numbered(unittest.TestCase):
    def test_one_room_alone(self):
        rooms = Rooms(1)
        rooms.lay(0, 1, 0, ())
        self.assertEqual(numbered(rooms), [[0, 0]])
        rooms = Rooms(200)
        for letter in range(1, 201):
            rooms.lay(0, letter, 0, ())
        self.assertEqual(numbered(rooms), [[0] * 400])

    def test_one_room_left_of_many(self):
        rooms = long_row(1000)
        rooms.lay(0, 1, 0, ())
        self.assertEqual(numbered(rooms), [[0, 0]])

    def test_rows_in_the_order_of_steps(self):
        rooms = long_row(3)
        rooms.lay(2, 1, 0, ())
        self.assertEqual(numbered(rooms), [[1, 2], [2, 0], [0, 1]])

    def test_numbered_anew(self):
        rooms = Rooms(1)
        rooms.make(0, -1)
        rooms.make(1, -1)
        rooms.make(2, -1)
        rooms.lay(3, -1, 0, ())
        self.assertEqual(numbered(rooms), [[1, 2], [3, 0], [0, 3], [2, 1]])

    def test_rooms_gone_among_the_numbers(self):
        rooms = Rooms(2)
        self.assertEqual([rooms.make(0, 2), rooms.make(0, -2), rooms.make(1, 1), rooms.make(3, 1), rooms.make(0, 1)],
                         [1, 2, 3, 4, 5])
        rooms.lay(1, 2, 0, ())
        rooms.lay(3, 2, 5, ())
        rooms.lay(5, 2, 3, ())
        rooms.lay(4, 1, 1, ())
        rooms.lay(4, 2, 4, ())
        rooms.lay(5, 1, 0, ())
        self.assertEqual(rooms.standing(), [0, 1, 3, 4, 5])
        self.assertEqual(numbered(rooms), [[1, 1, 2, 2], [0, 0, 3, 3], [3, 4, 0, 0], [4, 2, 1, 1], [2, 3, 4, 4]])

    def assert_filled(self, size, letters, rules, part, orders):
        tables = []
        for order in orders:
            rooms = filled(letters, rules, part, order)
            tables.append(numbered(rooms))
            self.assertEqual(tables[-1], numbered_by_hand(rooms))
            for rule in rules:
                self.assertEqual([led(tables[-1], room, rule) for room in range(size)], list(range(size)))
        self.assertEqual(len(tables[0]), size)
        self.assertEqual(tables, tables[:1] * len(orders))

    def test_the_same_table_by_each_order(self):
        for size, letters, rules, part in [
                (6, 2, [(1, 1, 1), (2, 2), (1, 2, 1, 2)], []), (6, 2, [(1,) * 4, (2, 2), (1, 2) * 3], [(1,)]),
                (12, 2, [(1, 1), (2,) * 3, (1, 2) * 3], []), (7, 1, [(1,) * 7], []), (1, 2, [(1,), (2,)], []),
                (12, 2, [(1, 2, -1, -2), (1,) * 3, (2,) * 4], []), (6, 2, [(1, 1, 1), (2, 2), (1, 2) * 4], [(1, 2)]),
                (12, 3, [(1, 1), (2, 2), (3, 3), (1, 2) * 3, (2, 3) * 2, (1, 3) * 2], []),
                (3, 2, [(1, 1, 1), (2, 2, 2), (1, 2, -1, -2), (1, 2, 2, 1)], [])]:
            self.assert_filled(size, letters, rules, part, ["rooms", "letters", "newest"])

    def test_where_rooms_went_by_one_order(self):
        braid = [(1, 2, 1, -2, -1, -2), (1, 1, 1)]
        self.assertLess(len(filled(2, braid, [], "rooms").standing()), filled(2, braid, [], "rooms").made)
        self.assert_filled(24, 2, braid, [], ["rooms", "letters"])
        self.assert_filled(1, 2, [(1, 2, -1, -2, -2), (2, 1, -2, -1, -1)], [], ["rooms"])
        self.assert_filled(5, 2, [(1, 1, 2, 2, 2), (1, 1, 1, 2, 2)], [], ["rooms"])

    def test_a_ring_of_a_thousand_rooms(self):
        rooms = long_row(1000)
        rooms.lay(999, 1, 0, ())
        table = numbered(rooms)
        self.assertEqual(len(table), 1000)
        self.assertEqual(table[:3], [[1, 2], [3, 0], [0, 4]])
        self.assertEqual(table[999], [998, 997])
        self.assertEqual(led(table, 0, (1,) * 1000), 0)

    def test_the_askers_own(self):
        rooms = long_row(3)
        rooms.lay(2, 1, 0, ())
        whole = [[1, 2], [2, 0], [0, 1]]
        told = numbered(rooms)
        self.assertEqual([type(part) for part in [told] + told], [list] * 4)
        told[0][0] = 7
        told[1].clear()
        told.append([])
        self.assertEqual(numbered(rooms), whole)
        told = numbered(rooms)
        rooms.lay(0, 1, 0, ())
        self.assertEqual(told, whole)
        self.assertEqual(numbered(rooms), [[0, 0]])

    def test_nothing_is_changed(self):
        rooms = filled(2, [(1, 1), (2, 2, 2), (1, 2) * 3], [(2,)], "newest")
        before = state(rooms)
        self.assertEqual(numbered(rooms), numbered(rooms))
        self.assertEqual(state(rooms), before)


class Led(unittest.TestCase):
    # The first letter turns 0, 1, 2 round, the second one changes 0 and 1.
    table = [[1, 2, 1, 1], [2, 0, 0, 0], [0, 1, 2, 2]]

    def test_the_empty_word(self):
        for room in range(3):
            self.assertEqual(led(self.table, room, ()), room)

    def test_forth_and_back(self):
        for room in range(3):
            for place, step in enumerate([1, -1, 2, -2]):
                self.assertEqual(led(self.table, room, (step,)), self.table[room][place])
                self.assertEqual(led(self.table, room, (step, -step)), room)

    def test_from_other_rooms(self):
        self.assertEqual(led(self.table, 0, (1, 1, 2)), 2)
        self.assertEqual(led(self.table, 1, (1, 1, 2)), 1)
        self.assertEqual(led(self.table, 2, (1, 1, 2)), 0)
        self.assertEqual(led(self.table, 2, (-1, -2, -1)), 2)
        self.assertEqual(led(self.table, 1, (-1, -1, 2, 1)), 0)

    def test_one_room(self):
        self.assertEqual(led([[0, 0]], 0, (1, -1, -1)), 0)

    def test_two_hundred_letters(self):
        # Even letters keep both rooms, odd ones change them.
        table = [[(step % 2 + room) % 2 for step in steps_in_order(200)] for room in range(2)]
        for room in range(2):
            for step in [1, -1, 2, 199, -199, 200, -200]:
                self.assertEqual(led(table, room, (step,)), (room + step) % 2)

    def test_two_thousand_steps(self):
        table = [[1, 2], [3, 0], [0, 4], [4, 1], [2, 3]]
        self.assertEqual(led(table, 0, (1,) * 2000), 0)
        self.assertEqual(led(table, 0, (1,) * 1999), 2)
        self.assertEqual(led(table, 4, (-1,) * 1999), 2)

    def test_as_the_rooms_are_led(self):
        rooms = filled(2, [(1,) * 4, (2, 2), (1, 2) * 3], [], "rooms")
        table = numbered(rooms)
        self.assertEqual(len(table), 24)
        for room in range(24):
            for rule in [(1,) * 4, (2, 2), (1, 2) * 3]:
                self.assertEqual(led(table, room, rule), room)
            self.assertNotEqual(led(table, room, (1, 2)), room)

    def test_nothing_is_changed(self):
        table = copy.deepcopy(self.table)
        word = (1, 2, -1)
        led(table, 1, word)
        self.assertEqual((table, word), (self.table, (1, 2, -1)))
        self.assertIs(type(led(table, 1, word)), int)


if __name__ == "__main__":
    unittest.main()
