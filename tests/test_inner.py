import copy
import itertools
import unittest

from cosetyard.filling import fill
from cosetyard.inner import inner_letters, inner_rules, inner_words, told_in
from cosetyard.tables import led
from cosetyard.ways import least_ways
from cosetyard.words import back, filled_in, thinned
from helper import (EIGHT_ODD, FIVE_EVEN, FOUR_BY_TURN, FOUR_POINTS, GROUPS, THREE_POINTS, Chance, in_a_row, mirrors,
                    ring, ring_table, rings_beside, some_word, steps_in_order)

# The first letter turns 0, 1, 2 round, the second one changes 0 and 1 and keeps 2.
TABLE = [[1, 2, 1, 1], [2, 0, 0, 0], [0, 1, 2, 2]]


class Plainly:
    """Points 23 to 25 word by word, with the least ways laid beside each other whole."""

    def __init__(self, table):
        self.table = table
        self.ways = least_ways(table)
        self.letters = [(room, letter) for room in range(len(table)) for letter in range(1, len(table[0]) // 2 + 1)
                        if not self.is_tree_way(room, letter)]
        self.words = [thinned(self.ways[room] + (letter,) + back(self.ways[led(table, room, (letter,))]))
                      for room, letter in self.letters]

    def is_tree_way(self, room, step):
        other = led(self.table, room, (step,))
        return self.ways[other] == self.ways[room] + (step,) or self.ways[room] == self.ways[other] + (-step,)

    def told(self, room, word):
        told = []
        for step in word:
            other = led(self.table, room, (step,))
            if not self.is_tree_way(room, step):
                if step > 0:
                    told.append(1 + self.letters.index((room, step)))
                else:
                    told.append(-1 - self.letters.index((other, -step)))
            room = other
        return thinned(tuple(told))

    def rules(self, rules):
        found = []
        for room in range(len(self.table)):
            for rule in rules:
                told = self.told(room, rule)
                if told != () and told not in found:
                    found.append(told)
        return found


def tables():
    return [fill(letters, rules, part, 200)[0] for letters, rules, part, size in GROUPS]


class InnerLetters(unittest.TestCase):
    def test_few_rooms(self):
        self.assertEqual(inner_letters([[0, 0]]), [(0, 1)])
        self.assertEqual(inner_letters([[1, 1], [0, 0]]), [(1, 1)])
        self.assertEqual(inner_letters([[1, 2], [2, 0], [0, 1]]), [(1, 1)])
        self.assertEqual(inner_letters([[1, 2], [3, 0], [0, 3], [2, 1]]), [(3, 1)])

    def test_in_the_order_of_rooms_then_of_letters(self):
        self.assertEqual(inner_letters(TABLE), [(0, 2), (1, 1), (1, 2), (2, 2)])

    def test_a_letter_that_leads_from_a_room_to_itself(self):
        self.assertIn((2, 2), inner_letters(TABLE))
        self.assertEqual(inner_letters([[0, 0, 0, 0]]), [(0, 1), (0, 2)])
        self.assertEqual(inner_letters([[0, 0, 1, 1], [1, 1, 0, 0]]), [(0, 1), (1, 1), (1, 2)])

    def test_tree_ways_in_both_directions_are_left_out(self):
        # The least way to room 2 ends with the back of letter 1, so the way of letter 1 from room 2 is a tree way.
        table = [[1, 2], [3, 0], [0, 4], [4, 1], [2, 3]]
        self.assertEqual(inner_letters(table), [(3, 1)])

    def test_a_back_is_no_inner_letter(self):
        for table in tables():
            for room, letter in inner_letters(table):
                self.assertGreater(letter, 0)
                self.assertLessEqual(letter, len(table[0]) // 2)

    def test_where_there_are_none(self):
        self.assertEqual(inner_letters([[]]), [])
        self.assertEqual(inner_words([[]]), [])
        self.assertEqual(inner_rules([[]], [(), ()]), [])

    def test_word_by_word(self):
        for table in tables():
            told = inner_letters(table)
            self.assertEqual(told, Plainly(table).letters)
            # All ways of letters but those of the tree, which has one less than there are rooms.
            self.assertEqual(len(told), len(table) * (len(table[0]) // 2 - 1) + 1)
            self.assertEqual({type(way) for way in told}, {tuple})
            self.assertIs(type(told), list)


class InnerWords(unittest.TestCase):
    def test_few_rooms(self):
        self.assertEqual(inner_words([[0, 0]]), [(1,)])
        self.assertEqual(inner_words([[1, 1], [0, 0]]), [(1, 1)])
        self.assertEqual(inner_words([[1, 2], [2, 0], [0, 1]]), [(1, 1, 1)])
        self.assertEqual(inner_words(TABLE), [(2, -1), (1, 1, 1), (1, 2), (-1, 2, 1)])

    def test_word_by_word(self):
        for table in tables():
            told = inner_words(table)
            self.assertEqual(told, Plainly(table).words)
            self.assertEqual({type(word) for word in told}, {tuple})
            for word in told:
                self.assertEqual(thinned(word), word)
                self.assertEqual(led(table, 0, word), 0)
                self.assertNotEqual(word, ())


class ToldIn(unittest.TestCase):
    def test_the_empty_word(self):
        for table in tables():
            for room in range(len(table)):
                self.assertEqual(told_in(table, room, ()), ())

    def test_each_step_from_each_room(self):
        # The inner letters are (0, 2), (1, 1), (1, 2), (2, 2).
        wanted = {(0, 1): (), (0, -1): (), (0, 2): (1,), (0, -2): (-3,), (1, 1): (2,), (1, -1): (), (1, 2): (3,),
                  (1, -2): (-1,), (2, 1): (), (2, -1): (-2,), (2, 2): (4,), (2, -2): (-4,)}
        for (room, step), told in wanted.items():
            self.assertEqual(told_in(TABLE, room, (step,)), told)

    def test_from_room_nought_and_from_another_room(self):
        self.assertEqual(told_in(TABLE, 0, (1, 1, 1)), (2,))
        self.assertEqual(told_in(TABLE, 1, (1, 1, 1)), (2,))
        self.assertEqual(told_in(TABLE, 2, (1, 1, 1)), (2,))
        self.assertEqual(told_in(TABLE, 0, (-1, -1, -1)), (-2,))
        self.assertEqual(told_in(TABLE, 0, (2, 2)), (1, 3))
        self.assertEqual(told_in(TABLE, 1, (2, 2)), (3, 1))
        self.assertEqual(told_in(TABLE, 2, (2, 2)), (4, 4))
        self.assertEqual(told_in(TABLE, 2, (-2, -2, -2)), (-4, -4, -4))

    def test_a_word_with_its_back_behind_it(self):
        for number, table in enumerate(tables()):
            word = some_word(Chance(number), len(table[0]) // 2, 12)
            for room in range(len(table)):
                self.assertEqual(told_in(table, room, word + back(word)), ())
                self.assertEqual(told_in(table, led(table, room, word), back(word)), back(told_in(table, room, word)))

    def test_thinned_at_the_end_alone(self):
        self.assertEqual(told_in(TABLE, 2, (2, 1, -1, -2)), ())
        self.assertEqual(told_in(TABLE, 0, (2, -2, 2)), (1,))
        # Between the two steps that are each other's back only tree ways are gone.
        self.assertEqual(told_in(TABLE, 1, (2, 1, -2)), (3, -1))
        self.assertEqual(told_in([[1, 2], [2, 0], [0, 1]], 1, (1, 1, 1, 1, -1, -1)), (1,))

    def test_word_by_word(self):
        for number, table in enumerate(tables()):
            plainly = Plainly(table)
            for seed in range(12):
                word = some_word(Chance(100 * number + seed), len(table[0]) // 2, 12)
                for room in range(len(table)):
                    told = told_in(table, room, word)
                    self.assertEqual(told, plainly.told(room, word))
                    self.assertIs(type(told), tuple)

    def test_filled_in_by_the_inner_words_it_is_the_word(self):
        for number, table in enumerate(tables()):
            ways = least_ways(table)
            for seed in range(30):
                word = some_word(Chance(1000 * number + seed), len(table[0]) // 2, 20)
                word = word + back(ways[led(table, 0, word)])
                self.assertEqual(led(table, 0, word), 0)
                self.assertEqual(thinned(filled_in(told_in(table, 0, word), inner_words(table))), thinned(word))

    def test_all_short_words(self):
        for size in range(6):
            for word in itertools.product(steps_in_order(2), repeat=size):
                if led(TABLE, 0, word) == 0:
                    self.assertEqual(thinned(filled_in(told_in(TABLE, 0, word), inner_words(TABLE))), thinned(word))

    def test_each_inner_word_is_its_letter(self):
        for table in tables():
            for number, word in enumerate(inner_words(table), start=1):
                self.assertEqual(told_in(table, 0, word), (number,))
                self.assertEqual(told_in(table, 0, back(word)), (-number,))

    def test_bounds(self):
        self.assertEqual(told_in(ring_table(1000), 0, (1,) * 2000), (1, 1))
        self.assertEqual(told_in(ring_table(1000), 7, (-1,) * 2000), (-1, -1))
        self.assertEqual(told_in([[0] * 400], 0, (200, -200, 7, -9)), (7, -9))


class InnerRules(unittest.TestCase):
    def test_no_rules(self):
        self.assertEqual(inner_rules(TABLE, []), [])

    def test_of_empty_rules_nothing_comes(self):
        self.assertEqual(inner_rules(TABLE, [(), (1, -1), (2, 1, -1, -2)]), [])

    def test_in_the_order_of_rooms_then_of_rules(self):
        # The inner letters are (0, 2), (1, 1), (1, 2), (2, 2).
        self.assertEqual(inner_rules(TABLE, [(2, 2), (1, 1, 1)]), [(1, 3), (2,), (3, 1), (4, 4)])
        self.assertEqual(inner_rules(TABLE, [(1, 1, 1), (2, 2)]), [(2,), (1, 3), (3, 1), (4, 4)])
        self.assertEqual(inner_rules(TABLE, [(1, 1, 1), (), (1, 1, 1), (2, 2), (-1, -1, -1)]),
                         [(2,), (1, 3), (-2,), (3, 1), (4, 4)])

    def test_those_that_stand_there_already(self):
        self.assertEqual(inner_rules(ring_table(5), ring(5)), [(1,)])
        self.assertEqual(inner_rules(ring_table(5), [(1,) * 5, (1,) * 5, (1,) * 10, (-1,) * 5]), [(1,), (1, 1), (-1,)])
        self.assertEqual(inner_rules([[0, 0]], [(1, 1), (1,) * 3, (1, 1)]), [(1, 1), (1, 1, 1)])

    def test_a_table_of_one_room_has_the_same_rules(self):
        self.assertEqual(inner_rules([[0] * 4], FIVE_EVEN), FIVE_EVEN)

    def test_word_by_word(self):
        for letters, rules, part, size in GROUPS:
            table = fill(letters, rules, part, 200)[0]
            told = inner_rules(table, rules)
            self.assertEqual(told, Plainly(table).rules(rules))
            self.assertIs(type(told), list)
            self.assertLessEqual({type(rule) for rule in told}, {tuple})

    def test_the_number_of_rooms_of_a_part_and_of_its_inner_group(self):
        for letters, rules, part in [
                (1, ring(12), [(1,) * 8]), (1, ring(12), []), (1, ring(12), [(1,)]), (2, mirrors(9), [(2,)]),
                (2, mirrors(9), [(1,)]), (2, mirrors(9), [(1,) * 3, (2,)]), (2, rings_beside(3, 4), [(1,)]),
                (2, rings_beside(2, 4), [(1, 2)]), (2, rings_beside(3, 4), [(1, 2)]), (2, THREE_POINTS, []),
                (2, THREE_POINTS, [(1,)]), (2, THREE_POINTS, [(1, 2)]), (3, FOUR_POINTS, [(1,), (2,)]),
                (3, FOUR_POINTS, [(1,), (3,)]), (2, FOUR_BY_TURN, [(1,)]), (2, FOUR_BY_TURN, [(2,)]),
                (2, FOUR_BY_TURN, []), (2, FIVE_EVEN, [(1, 2)]), (2, FIVE_EVEN, [(2,)]), (2, EIGHT_ODD, [(1, 1)]),
                (2, FIVE_EVEN, [(1,), (2,)]), (2, FIVE_EVEN, [(1,), (1, 2, -1, 2, 2)])]:
            whole = len(fill(letters, rules, [], 1000)[0])
            table = fill(letters, rules, part, 1000)[0]
            inner = fill(len(inner_letters(table)), inner_rules(table, rules), [], 1000)[0]
            self.assertEqual(whole, len(table) * len(inner), (letters, rules, part))

    def test_bounds(self):
        self.assertEqual(inner_rules(ring_table(1000), [(1,) * 2000, (1,) * 1000]), [(1, 1), (1,)])
        self.assertEqual(inner_rules([[0] * 400], [(letter,) for letter in range(1, 201)] * 2),
                         [(letter,) for letter in range(1, 201)])
        table = in_a_row(1000)
        rules = [(1, 1), (2, 2), (3, 3), (1, 2) * 1000]
        self.assertEqual(len(inner_letters(table)), 2001)
        self.assertEqual(len(inner_words(table)), 2001)
        told = inner_rules(table, rules)
        self.assertEqual(told[:3], Plainly(in_a_row(6)).rules([(1, 1), (2, 2), (3, 3)])[:3])
        self.assertEqual(told_in(table, 0, (1, 2) * 1000), [rule for rule in told if len(rule) > 2][0])


class NothingElse(unittest.TestCase):
    def test_what_is_handed_in_stays(self):
        table = copy.deepcopy(TABLE)
        rules = [(1, 1, 1), (), (2, 2)]
        word = (1, 2, -1)
        inner_letters(table)
        inner_words(table)
        told_in(table, 2, word)
        inner_rules(table, rules)
        self.assertEqual((table, rules, word), (TABLE, [(1, 1, 1), (), (2, 2)], (1, 2, -1)))

    def test_what_is_told_is_the_askers(self):
        for asked in [lambda: inner_letters(TABLE), lambda: inner_words(TABLE),
                      lambda: inner_rules(TABLE, [(2, 2), (1, 1, 1)])]:
            whole = asked()
            told = asked()
            told.pop()
            told[0] = ()
            self.assertEqual(asked(), whole)


if __name__ == "__main__":
    unittest.main()
