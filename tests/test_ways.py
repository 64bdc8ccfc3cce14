import copy
import itertools
import unittest

from cosetyard.filling import fill
from cosetyard.tables import led
from cosetyard.ways import least_ways
from helper import FIVE_EVEN, GROUPS, in_a_row, mirrors, ring_table, steps_in_order

# The first letter turns 0, 1, 2 round, the second one changes 0 and 1.
TABLE = [[1, 2, 1, 1], [2, 0, 0, 0], [0, 1, 2, 2]]


def ways_by_all_words(table, most):
    """To each room the first word that leads to it, out of all words to so many steps, gone through in their order."""
    found = {}
    for size in range(most + 1):
        for word in itertools.product(steps_in_order(len(table[0]) // 2), repeat=size):
            found.setdefault(led(table, 0, word), word)
        if len(found) == len(table):
            break
    return found


class LeastWays(unittest.TestCase):
    def assert_least(self, table, most):
        handed = copy.deepcopy(table)
        told = least_ways(table)
        self.assertEqual(table, handed)
        self.assertIs(type(told), list)
        self.assertEqual({type(way) for way in told}, {tuple})
        self.assertEqual(len(told), len(table))
        found = ways_by_all_words(table, most)
        for room, way in enumerate(told):
            self.assertEqual(led(table, 0, way), room)
            if room in found:
                self.assertEqual(way, found[room])
            else:
                self.assertGreater(len(way), most)
        return len(found) == len(table)

    def test_few_rooms(self):
        self.assertEqual(least_ways([[0, 0]]), [()])
        self.assertEqual(least_ways([[1, 1], [0, 0]]), [(), (1,)])
        self.assertEqual(least_ways([[1, 2], [2, 0], [0, 1]]), [(), (1,), (-1,)])
        self.assertEqual(least_ways([[1, 2], [3, 0], [0, 3], [2, 1]]), [(), (1,), (-1,), (1, 1)])
        self.assertEqual(least_ways(TABLE), [(), (1,), (-1,)])

    def test_the_way_to_room_nought_is_empty(self):
        for letters, rules, part, size in GROUPS:
            self.assertEqual(least_ways(fill(letters, rules, part, 200)[0])[0], ())

    def test_against_all_words_of_few_steps(self):
        whole = 0
        for letters, rules, part, size in GROUPS:
            whole += self.assert_least(fill(letters, rules, part, 200)[0], [12, 12, 7, 5][letters])
        self.assertGreater(whole, len(GROUPS) - 4)

    def test_few_steps_ahead_of_the_order_of_steps(self):
        """By letter 2 alone a room is come to sooner than by many letters 1, and 1 goes ahead where both are short."""
        table = fill(2, [(1,) * 9, (1,) * 4 + (-2,), (2,) * 9], [], 100)[0]
        self.assertEqual(len(table), 9)
        self.assertEqual(least_ways(table)[1:5], [(1,), (-1,), (2,), (-2,)])
        self.assertTrue(self.assert_least(table, 6))
        self.assertEqual([len(way) for way in least_ways(table)], [0, 1, 1, 1, 1, 2, 2, 2, 2])

    def test_a_thousand_rooms(self):
        ways = least_ways(ring_table(1000))
        self.assertEqual(ways[:5], [(), (1,), (-1,), (1, 1), (-1, -1)])
        self.assertEqual(ways[998:], [(-1,) * 499, (1,) * 500])
        ways = least_ways(in_a_row(1000))
        self.assertEqual(ways, [((1, 2) * 500)[:room] for room in range(999)] + [(1, 2) * 499 + (1,)])
        self.assertEqual(len(least_ways(fill(2, mirrors(500), [], 1000)[0])), 1000)

    def test_two_hundred_letters(self):
        self.assertEqual(least_ways([[0] * 400]), [()])
        table = [[0] * 398 + [1, 2], [1] * 398 + [2, 0], [2] * 398 + [0, 1]]
        self.assertEqual(least_ways(table), [(), (200,), (-200,)])

    def test_what_is_told_is_the_askers(self):
        table = fill(2, FIVE_EVEN, [(1, 2)], 100)[0]
        told = least_ways(table)
        whole = list(told)
        told.clear()
        self.assertEqual(least_ways(table), whole)
        told = least_ways(table)
        table[0][0] = 5
        table.pop()
        self.assertEqual(told, whole)


if __name__ == "__main__":
    unittest.main()
