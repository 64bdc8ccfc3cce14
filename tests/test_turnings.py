import copy
import itertools
import math
import unittest

from cosetyard.filling import fill
from cosetyard.tables import led
from cosetyard.turnings import parted, rings, times, turning
from helper import (FIVE_EVEN, FOUR_BY_TURN, GROUPS, THREE_POINTS, Chance, in_a_row, mirrors, ring, rings_beside,
                    some_word, steps_in_order)

# The first letter turns 0, 1, 2 round, the second one changes 0 and 1.
TABLE = [[1, 2, 1, 1], [2, 0, 0, 0], [0, 1, 2, 2]]


def turned_without_order(chance, size):
    rooms = list(range(size))
    return [rooms.pop(chance.below(len(rooms))) for place in range(size)]


def turned_by_rings(lengths):
    """Rings of these lengths, one behind the other."""
    turned = []
    for length in lengths:
        start = len(turned)
        turned.extend([start + (place + 1) % length for place in range(length)])
    return turned


class Turning(unittest.TestCase):
    def test_the_empty_word(self):
        for table in [TABLE, [[0, 0]], fill(2, FIVE_EVEN, [], 100)[0]]:
            self.assertEqual(turning(table, ()), list(range(len(table))))

    def test_each_step(self):
        self.assertEqual(turning(TABLE, (1,)), [1, 2, 0])
        self.assertEqual(turning(TABLE, (-1,)), [2, 0, 1])
        self.assertEqual(turning(TABLE, (2,)), [1, 0, 2])
        self.assertEqual(turning(TABLE, (-2,)), [1, 0, 2])

    def test_from_the_left(self):
        self.assertEqual(turning(TABLE, (1, 2)), [0, 2, 1])
        self.assertEqual(turning(TABLE, (2, 1)), [2, 1, 0])
        self.assertEqual(turning(TABLE, (-1, -2)), [2, 1, 0])

    def test_forth_and_back(self):
        for word in [(1, -1), (-1, 1), (2, -2), (1, 2, -2, -1), (2, 1, 1, -1, -1, -2)]:
            self.assertEqual(turning(TABLE, word), [0, 1, 2])

    def test_against_the_rooms_led_one_by_one(self):
        for letters, rules, part, size in GROUPS:
            table = fill(letters, rules, part, 200)[0]
            for seed in range(6):
                word = some_word(Chance(seed), letters, 9)
                self.assertEqual(turning(table, word), [led(table, room, word) for room in range(size)])

    def test_rules_bring_each_room_back(self):
        for letters, rules, part, size in GROUPS:
            table = fill(letters, rules, part, 200)[0]
            for rule in rules:
                self.assertEqual(turning(table, rule), list(range(size)))

    def test_bounds(self):
        table = fill(1, ring(1000), [], 1000)[0]
        self.assertEqual(turning(table, (1,) * 1000), list(range(1000)))
        self.assertEqual(turning(table, (1,) * 2000), list(range(1000)))
        self.assertEqual(turning(table, (-1,) * 1999), turning(table, (1,)))
        self.assertEqual(turning([[0] * 400], (200, -200, 1)), [0])
        self.assertEqual(turning([[0] * 398 + [1, 2], [1] * 398 + [2, 0], [2] * 398 + [0, 1]], (1, 200, -5)), [1, 2, 0])

    def test_nothing_is_changed_and_what_is_told_is_the_askers(self):
        table = copy.deepcopy(TABLE)
        word = (1, 2, 1)
        for told in [turning(table, word), turning(table, ())]:
            told[0] = 9
            told.append(7)
        self.assertEqual((table, word), (TABLE, (1, 2, 1)))
        self.assertEqual((turning(table, (1,)), turning(table, ())), ([1, 2, 0], [0, 1, 2]))
        told = turning(table, (1,))
        table[0][0] = 0
        self.assertEqual(told, [1, 2, 0])


class Rings(unittest.TestCase):
    def test_few_rooms(self):
        self.assertEqual(rings([0]), [[0]])
        self.assertEqual(rings([0, 1]), [[0], [1]])
        self.assertEqual(rings([1, 0]), [[0, 1]])
        self.assertEqual(rings([1, 2, 0]), [[0, 1, 2]])
        self.assertEqual(rings([2, 0, 1]), [[0, 2, 1]])
        self.assertEqual(rings([2, 0, 1, 3]), [[0, 2, 1], [3]])
        self.assertEqual(rings([0, 4, 3, 2, 1]), [[0], [1, 4], [2, 3]])

    def test_from_their_least_rooms_on(self):
        self.assertEqual(rings([4, 5, 2, 1, 0, 3]), [[0, 4], [1, 5, 3], [2]])

    def test_all_turnings_of_six_rooms(self):
        for turned in itertools.permutations(range(6)):
            self.assert_rings(list(turned))

    def assert_rings(self, turned):
        handed = list(turned)
        told = rings(turned)
        self.assertEqual(turned, handed)
        self.assertEqual(sorted(room for found in told for room in found), list(range(len(turned))))
        for found in told:
            self.assertEqual([turned[room] for room in found], found[1:] + found[:1])
            self.assertEqual(found[0], min(found))
            self.assertIs(type(found), list)
        self.assertEqual([found[0] for found in told], sorted(found[0] for found in told))
        self.assertIs(type(told), list)

    def test_a_thousand_rooms(self):
        self.assertEqual(rings(list(range(1000))), [[room] for room in range(1000)])
        self.assertEqual(rings(list(range(1, 1000)) + [0]), [list(range(1000))])
        self.assertEqual(rings([999] + list(range(999))), [[0] + list(range(999, 0, -1))])
        for seed in range(20):
            self.assert_rings(turned_without_order(Chance(seed), 1000))

    def test_what_is_told_is_the_askers(self):
        turned = [2, 0, 1, 3]
        told = rings(turned)
        told[0].append(9)
        told.pop()
        self.assertEqual(turned, [2, 0, 1, 3])
        self.assertEqual(rings(turned), [[0, 2, 1], [3]])
        told = rings(turned)
        turned[3] = 0
        self.assertEqual(told, [[0, 2, 1], [3]])


class Times(unittest.TestCase):
    def test_few_rooms(self):
        for turned, told in [([0], 1), ([0, 1, 2], 1), ([1, 0], 2), ([1, 2, 0], 3), ([1, 0, 3, 2], 2),
                             ([1, 0, 3, 4, 2], 6), ([1, 2, 3, 0, 5, 4], 4), ([1, 2, 3, 0, 5, 6, 7, 8, 9, 4], 12)]:
            self.assertEqual(times(turned), told)

    def test_the_least_number_that_brings_each_room_back(self):
        for turned in itertools.permutations(range(6)):
            rooms = list(turned)
            many = 1
            while rooms != list(range(6)):
                rooms = [turned[room] for room in rooms]
                many += 1
            self.assertEqual(times(list(turned)), many)

    def test_lengths_of_rings(self):
        for lengths in [[4, 6], [6, 4], [2, 4, 8], [8, 4, 2], [9, 6, 4], [1, 1, 1], [30, 42, 70, 105], [12, 18, 12]]:
            self.assertEqual(times(turned_by_rings(lengths)), math.lcm(*lengths))

    def test_many_figures(self):
        primes = [size for size in range(2, 80) if all(size % other for other in range(2, size))]
        self.assertLessEqual(sum(primes), 1000)
        self.assertEqual(times(turned_by_rings(primes)), math.prod(primes))
        self.assertGreater(times(turned_by_rings(primes)), 10 ** 28)
        self.assertEqual(times(turned_by_rings(primes[::-1])), math.prod(primes))

    def test_a_thousand_rooms(self):
        self.assertEqual(times(list(range(1000))), 1)
        self.assertEqual(times(list(range(1, 1000)) + [0]), 1000)
        self.assertEqual(times([999] + list(range(999))), 1000)
        for seed in range(20):
            turned = turned_without_order(Chance(seed), 1000)
            self.assertEqual(times(turned), math.lcm(*[len(found) for found in rings(turned)]))

    def test_of_words(self):
        table = fill(2, FOUR_BY_TURN, [], 100)[0]
        for word, told in [((), 1), ((1,), 4), ((1, 1), 2), ((2,), 2), ((1, 2), 3), ((1, 1, 2), 4), ((1, -1), 1)]:
            self.assertEqual(times(turning(table, word)), told)

    def test_kind_and_nothing_changed(self):
        turned = [1, 0, 3, 4, 2]
        self.assertIs(type(times(turned)), int)
        self.assertEqual(turned, [1, 0, 3, 4, 2])


class Parted(unittest.TestCase):
    def test_at_no_room(self):
        self.assertIsNone(parted(TABLE, (), ()))
        self.assertIsNone(parted(TABLE, (1,), (1,)))
        self.assertIsNone(parted(TABLE, (1,), (-1, -1)))
        self.assertIsNone(parted(TABLE, (), (1, 2) * 2))
        self.assertIsNone(parted([[0, 0]], (1,), ()))

    def test_at_room_nought(self):
        for one, other in [((), (1,)), ((1,), (-1,)), ((2,), ()), ((1, 2), (2, 1))]:
            self.assertEqual(parted(TABLE, one, other), 0)
            self.assertEqual(parted(TABLE, other, one), 0)

    def test_at_a_later_room(self):
        self.assertEqual(parted(TABLE, (1,), (2,)), 1)
        self.assertEqual(parted(TABLE, (2,), (1,)), 1)
        self.assertEqual(parted(TABLE, (1, 2), ()), 1)
        table = fill(2, mirrors(9), [(2,)], 100)[0]
        self.assertEqual(parted(table, (2,), ()), 1)
        table = fill(3, [(1, 1), (2, 2), (3, 3), (1, 2) * 3, (2, 3) * 3, (1, 3) * 2], [(1,), (2,)], 100)[0]
        self.assertEqual(parted(table, (1,), ()), 2)
        self.assertEqual(parted(table, (1,), (2,)), 1)

    def test_the_last_rooms(self):
        for size in [2, 3, 10, 1000]:
            self.assertEqual(parted(in_a_row(size), (3,), ()), size - 2)
            self.assertEqual(parted(in_a_row(size), (1, 2, -3), (1, 2)), 0 if size < 5 else size - 4)

    def test_bounds(self):
        table = fill(1, ring(1000), [], 1000)[0]
        self.assertIsNone(parted(table, (1,) * 2000, ()))
        self.assertEqual(parted(table, (1,) * 1999, ()), 0)

    def test_all_short_words(self):
        table = fill(2, THREE_POINTS, [(1,)], 20)[0]
        words = [word for size in range(4) for word in itertools.product(steps_in_order(2), repeat=size)]
        for one in words:
            for other in words:
                unlike = [room for room in range(3) if led(table, room, one) != led(table, room, other)]
                self.assertEqual(parted(table, one, other), min(unlike, default=None))

    def test_without_a_part_words_are_parted_at_room_nought_or_none(self):
        table = fill(2, rings_beside(3, 4), [], 20)[0]
        self.assertIsNone(parted(table, (1, 2), (2, 1)))
        self.assertEqual(parted(table, (1, 2), (2, 2)), 0)

    def test_kind_and_nothing_changed(self):
        table = copy.deepcopy(TABLE)
        one = (1, 2)
        other = (2, 1)
        self.assertIs(type(parted(table, one, other)), int)
        self.assertEqual((table, one, other), (TABLE, (1, 2), (2, 1)))


if __name__ == "__main__":
    unittest.main()
