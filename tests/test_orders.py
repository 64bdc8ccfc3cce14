import unittest

from cosetyard.errors import NoOrder
from cosetyard.orders import ByLetters, Newest, Order, order_by
from cosetyard.rooms import Rooms
from helper import Built, Chance, first_gap, known_ways, long_row, state

NAMES = {"rooms": Order, "letters": ByLetters, "newest": Newest}


class OrdersCase(unittest.TestCase):
    def assert_gaps(self, rooms, by_rooms, by_letters, by_newest):
        for order, gap in [(Order(), by_rooms), (ByLetters(), by_letters), (Newest(), by_newest)]:
            self.assertEqual(order.gap(rooms), gap)

    def assert_first(self, rooms):
        known = known_ways(rooms)
        self.assert_gaps(rooms, *[first_gap(name, rooms.letters, rooms.standing(), known) for name in NAMES])


class Gap(OrdersCase):
    def test_at_the_beginning(self):
        for letters in [1, 2, 200]:
            self.assert_gaps(Rooms(letters), (0, 1), (0, 1), (0, 1))

    def test_three_unlike_ones(self):
        rooms = Rooms(2)
        for step in [1, -1]:
            rooms.make(0, step)
        rooms.lay(1, 1, 2, ())
        rooms.make(2, -2)
        self.assert_gaps(rooms, (0, 2), (3, 1), (3, 1))
        rooms.lay(3, 1, 3, ())
        self.assert_gaps(rooms, (0, 2), (0, 2), (3, -2))
        rooms.lay(0, 2, 0, ())
        self.assert_gaps(rooms, (1, 2), (1, 2), (3, -2))
        rooms = long_row(3, 2)
        rooms.lay(0, -1, 0, ())
        self.assert_gaps(rooms, (0, 2), (0, 2), (0, 2))
        rooms = long_row(3, 2)
        self.assert_gaps(rooms, (0, -1), (2, 1), (2, 1))
        rooms.make(0, 2)
        rooms.lay(3, 1, 3, ())
        self.assert_gaps(rooms, (0, -1), (2, 1), (3, 2))

    def test_rooms_gone_among_the_numbers(self):
        built = Built(3)
        for room, step in [(0, 1), (0, 2), (1, 1), (0, -1), (0, -2), (3, 2), (6, 1)]:
            built.make(room, step)
        built.lay(0, 1, 2)
        built.lay(7, 1, 7)
        self.assertEqual(built.rooms.standing(), [0, 1, 3, 4, 5, 6])
        self.assert_gaps(built.rooms, (0, 3), (3, 1), (6, 2))
        self.assert_first(built.rooms)

    def test_backs_behind_their_letters(self):
        rooms = Rooms(2)
        rooms.lay(0, 2, 0, ())
        rooms.make(0, 1)
        self.assert_gaps(rooms, (0, -1), (1, 1), (1, 1))
        rooms.lay(1, 1, 0, ())
        self.assert_gaps(rooms, (1, 2), (1, 2), (1, 2))
        rooms.make(1, 2)
        self.assert_gaps(rooms, (1, -2), (2, 1), (2, 1))

    def test_without_a_gap(self):
        rooms = Rooms(1)
        rooms.lay(0, 1, 0, ())
        self.assert_gaps(rooms, None, None, None)
        rooms = long_row(5)
        rooms.lay(4, 1, 0, ())
        self.assert_gaps(rooms, None, None, None)
        rooms = long_row(5, 2)
        rooms.lay(0, 1, 0, ())
        self.assert_gaps(rooms, (0, 2), (0, 2), (0, 2))
        rooms.lay(0, -2, 0, ())
        self.assert_gaps(rooms, None, None, None)

    def test_the_last_gap_of_all(self):
        rooms = Rooms(200)
        for letter in range(1, 200):
            rooms.lay(0, letter, 0, ())
        self.assert_gaps(rooms, (0, 200), (0, 200), (0, 200))
        rooms.make(0, 200)
        self.assert_gaps(rooms, (0, -200), (1, 1), (1, 1))

    def test_a_thousand_rooms(self):
        rooms = long_row(1000)
        self.assert_gaps(rooms, (0, -1), (999, 1), (999, 1))

    def test_many_rooms(self):
        for seed in range(300):
            built = Built(1 + seed % 3).grow(Chance(seed), 3 + seed % 20, 20)
            self.assert_first(built.rooms)

    def test_kind(self):
        for order in [Order(), ByLetters(), Newest()]:
            told = order.gap(long_row(3))
            self.assertIs(type(told), tuple)
            self.assertEqual([type(number) for number in told], [int, int])

    def test_nothing_is_changed(self):
        rooms = Built(2).grow(Chance(3), 20, 20).rooms
        before = state(rooms)
        for order in [Order(), ByLetters(), Newest()]:
            self.assertEqual(order.gap(rooms), order.gap(rooms))
        self.assertEqual(state(rooms), before)


class OrderBy(OrdersCase):
    def test_classes(self):
        self.assertTrue(issubclass(ByLetters, Order))
        self.assertTrue(issubclass(Newest, Order))
        self.assertFalse(issubclass(Newest, ByLetters))
        self.assertFalse(issubclass(ByLetters, Newest))

    def test_an_object_of_just_the_class(self):
        for name, kind in NAMES.items():
            self.assertIs(type(order_by(name)), kind)

    def test_the_gap(self):
        rooms = long_row(3, 2)
        rooms.make(0, 2)
        rooms.lay(3, 1, 3, ())
        self.assertEqual([order_by(name).gap(rooms) for name in NAMES], [(0, -1), (2, 1), (3, 2)])

    def test_every_other_text_is_refused(self):
        for name in ["", "Rooms", "ROOMS", " rooms", "rooms ", "room", "letter", "Letters", "Newest", "new", "order",
                     "Order", "ByLetters", "by letters", "rooms,letters", "roomsletters", "oldest", "1", "~" * 2000]:
            with self.assertRaises(NoOrder):
                order_by(name)


if __name__ == "__main__":
    unittest.main()
