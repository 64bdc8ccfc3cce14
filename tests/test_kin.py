import copy
import itertools
import unittest

from cosetyard.errors import TooGreat, TooMany
from cosetyard.filling import fill
from cosetyard.judge import judged
from cosetyard.kin import carries, homes, kin, onto
from cosetyard.tables import led
from cosetyard.ways import least_ways
from cosetyard.words import back, filled_in
from helper import (EIGHT_ODD, FIVE_EVEN, FOUR_BY_TURN, FOUR_POINTS, THREE_POINTS, Chance, mirrors, ring, ring_table,
                    rings_beside, some_word)


def table_of(letters, rules):
    return fill(letters, rules, [], 1000)[0]


def carries_by_hand(rules, table, images):
    return all(led(table, 0, filled_in(rule, images)) == 0 for rule in rules)


def homes_by_hand(letters, rules, table):
    """All lists of rooms gone through, each by the least ways of its rooms."""
    ways = least_ways(table)
    return [list(rooms) for rooms in itertools.product(range(len(table)), repeat=letters)
            if carries_by_hand(rules, table, [ways[room] for room in rooms])]


def onto_by_hand(table, home):
    ways = least_ways(table)
    words = [ways[room] for room in home] + [back(ways[room]) for room in home]
    reached = {0}
    again = True
    while again:
        more = reached | {led(table, room, word) for room in reached for word in words}
        again = more != reached
        reached = more
    return len(reached) == len(table)


class Carries(unittest.TestCase):
    def test_images_that_carry_and_that_do_not(self):
        table = table_of(2, THREE_POINTS)
        for rules, images, told in [
                ([(1, 1)], [(1,)], True), ([(1, 1)], [(2,)], True), ([(1, 1)], [(1, 2)], False), ([(1, 1)], [()], True),
                ([(1, 1, 1)], [(1, 2)], True), ([(1, 1, 1)], [(-2, -1)], True), ([(1, 1, 1)], [(1,)], False),
                (mirrors(3), [(1, 2), (1,)], True), (mirrors(3), [(1,), (1, 2)], False),
                (mirrors(3), [(1, 2), ()], False), (mirrors(3), [(), ()], True), (mirrors(3), [(1, 2), (1, 2)], False)]:
            self.assertIs(carries(rules, table, images), told, (rules, images))

    def test_no_rules(self):
        self.assertIs(carries([], table_of(2, THREE_POINTS), [(1,), (1, 2)]), True)

    def test_empty_rules(self):
        self.assertIs(carries([(), ()], table_of(2, THREE_POINTS), [(1,)]), True)

    def test_each_of_the_rules_is_asked(self):
        table = table_of(1, ring(6))
        self.assertIs(carries([(1, 1), (1, 1, 1)], table, [(1,) * 3]), False)
        self.assertIs(carries([(1, 1, 1), (1, 1)], table, [(1,) * 3]), False)
        self.assertIs(carries([(1, 1, 1), (1, 1)], table, [(1,) * 6]), True)

    def test_backs(self):
        table = table_of(2, FOUR_BY_TURN)
        self.assertIs(carries([(1, -2)], table, [(1, 2), (1, 2)]), True)
        self.assertIs(carries([(1, -2)], table, [(1, 2), (2, 1)]), False)
        self.assertIs(carries([(-1, 2, 1, -2)], table, [(1,), (1, 1)]), True)
        self.assertIs(carries([(-1, 2, 1, -2)], table, [(1,), (2,)]), False)

    def test_a_group_in_its_own_table(self):
        for letters, rules in [(1, ring(7)), (2, mirrors(4)), (2, FOUR_BY_TURN), (3, FOUR_POINTS), (2, EIGHT_ODD)]:
            table = table_of(letters, rules)
            self.assertIs(carries(rules, table, [(letter,) for letter in range(1, letters + 1)]), True)

    def test_words_without_order(self):
        table = table_of(2, FOUR_BY_TURN)
        told = []
        for seed in range(300):
            chance = Chance(seed)
            rules = [some_word(chance, 2, 6) for place in range(2)]
            images = [some_word(chance, 2, 4) for place in range(2)]
            told.append(carries(rules, table, images))
            self.assertIs(told[-1], carries_by_hand(rules, table, images))
        self.assertGreater(min(told.count(True), told.count(False)), 20)

    def test_bounds(self):
        table = ring_table(1000)
        self.assertIs(carries([(1,) * 2000], table, [(1,) * 10]), True)
        self.assertIs(carries([(1,) * 1999], table, [(1,) * 10]), False)
        self.assertIs(carries([(200, -1)] + [()] * 399, [[0] * 400], [()] * 200), True)


class Homes(unittest.TestCase):
    def assert_homes(self, letters, rules, table):
        handed = copy.deepcopy((rules, table))
        told = homes(letters, rules, table)
        self.assertEqual(told, homes_by_hand(letters, rules, table))
        self.assertEqual((rules, table), handed)
        self.assertEqual({type(thing) for thing in [told] + told}, {list})
        return len(told)

    def test_against_all_lists_of_rooms(self):
        groups = [(1, ring(1)), (1, ring(2)), (1, ring(3)), (1, ring(6)), (2, mirrors(3)), (2, THREE_POINTS),
                  (2, rings_beside(2, 2)), (2, mirrors(4)), (2, EIGHT_ODD), (2, [(1, 2, -1, -2)]), (1, [(-1,) * 4]),
                  (2, [(2, 2), (2, 1, 2)]), (2, [(), (1, -2)]), (2, [(1, 1)])]
        for one, rules in groups:
            for other, others in groups[:9]:
                self.assert_homes(one, rules, table_of(other, others))

    def test_three_letters_and_more(self):
        self.assertEqual(self.assert_homes(3, FOUR_POINTS, table_of(2, THREE_POINTS)), 10)
        self.assert_homes(4, [(1, 2, 3, 4), (4, 4), (-3, 2)], table_of(2, rings_beside(2, 2)))
        self.assert_homes(3, [(3, 3), (1, -3), (2,)], table_of(1, ring(6)))

    def test_few_of_a_ring(self):
        self.assertEqual(homes(1, ring(2), ring_table(4)), [[0], [3]])
        self.assertEqual(homes(1, ring(4), ring_table(4)), [[0], [1], [2], [3]])
        self.assertEqual(homes(1, ring(3), ring_table(4)), [[0]])
        self.assertEqual(homes(2, [(1, 1), (2, 1)], ring_table(4)), [[0, 0], [3, 3]])

    def test_no_rules(self):
        self.assertEqual(homes(1, [], ring_table(3)), [[0], [1], [2]])
        self.assertEqual(homes(2, [], ring_table(2)), [[0, 0], [0, 1], [1, 0], [1, 1]])
        self.assertEqual(homes(3, [()], [[0, 0]]), [[0, 0, 0]])

    def test_the_number_of_lists(self):
        for rooms, letters in [(70, 2), (17, 3), (8, 4), (5, 5), (4, 6), (3, 7), (2, 12), (1000, 1), (1, 200)]:
            self.assertLessEqual(rooms ** letters, 5000)
            told = homes(letters, [], ring_table(rooms))
            self.assertEqual(len(told), rooms ** letters)
            self.assertEqual(told, sorted(told))
            self.assertEqual((told[0], told[-1]), ([0] * letters, [rooms - 1] * letters))
        for rooms, letters in [(71, 2), (18, 3), (9, 4), (6, 5), (5, 6), (4, 7), (3, 8), (2, 13), (2, 200), (1000, 2),
                               (1000, 200)]:
            self.assertGreater(rooms ** letters, 5000)
            with self.assertRaises(TooGreat):
                homes(letters, [], ring_table(rooms))

    def test_at_the_very_number(self):
        self.assertEqual(len(homes(1, [(1,) * 20], ring_table(5000))), 20)
        with self.assertRaises(TooGreat):
            homes(1, [(1,) * 20], ring_table(5001))

    def test_too_great_whatever_the_rules_are(self):
        for rules in [[], [()], [(1,), (2,)], [(1,) * 71]]:
            with self.assertRaises(TooGreat):
                homes(2, rules, ring_table(71))

    def test_two_hundred_letters_and_one_room(self):
        for rules in [[], [(letter,) for letter in range(1, 201)], [(200, -1)] * 400]:
            self.assertEqual(homes(200, rules, [[0, 0]]), [[0] * 200])
            self.assertEqual(homes(200, rules, [[0] * 400]), [[0] * 200])

    def test_a_thousand_rooms(self):
        self.assertEqual(homes(1, ring(1000), ring_table(1000)), [[room] for room in range(1000)])
        self.assertEqual(homes(1, [(1,) * 2000, (1, 1)], ring_table(1000)), [[0], [999]])
        self.assertEqual(len(homes(1, [(-1, -1)], table_of(2, mirrors(500)))), 502)

    def test_what_is_told_is_the_askers(self):
        table = ring_table(4)
        rules = [(1, 1), (2, 1)]
        told = homes(2, rules, table)
        told[0].append(7)
        told.pop()
        self.assertEqual(homes(2, rules, table), [[0, 0], [3, 3]])
        told = homes(2, [], ring_table(2))
        told[0][0] = 9
        self.assertEqual(told, [[9, 0], [0, 1], [1, 0], [1, 1]])


class Onto(unittest.TestCase):
    def test_the_empty_list(self):
        self.assertIs(onto([[0, 0]], []), True)
        self.assertIs(onto([[0] * 400], []), True)
        for size in [2, 3, 1000]:
            self.assertIs(onto(ring_table(size), []), False)

    def test_rooms_of_a_ring(self):
        table = ring_table(6)
        self.assertEqual([onto(table, [room]) for room in range(6)], [False, True, True, False, False, False])
        self.assertIs(onto(table, [3, 4]), False)
        self.assertIs(onto(table, [5, 3]), True)
        self.assertIs(onto(table, [0, 0, 0]), False)
        self.assertIs(onto([[0, 0]], [0]), True)

    def test_all_lists_of_two_rooms(self):
        for letters, rules in [(1, ring(12)), (2, mirrors(4)), (2, EIGHT_ODD), (2, THREE_POINTS),
                               (2, rings_beside(2, 4)), (2, FOUR_BY_TURN)]:
            table = table_of(letters, rules)
            told = []
            for home in itertools.product(range(len(table)), repeat=2):
                told.append(onto(table, list(home)))
                self.assertIs(told[-1], onto_by_hand(table, home))
            self.assertIn(True, told)
            self.assertIn(False, told)

    def test_the_letters_themselves(self):
        for letters, rules in [(3, FOUR_POINTS), (2, FIVE_EVEN)]:
            table = table_of(letters, rules)
            home = [led(table, 0, (letter,)) for letter in range(1, letters + 1)]
            self.assertIs(onto(table, home), True)
            self.assertIs(onto(table, home[:1]), False)

    def test_bounds(self):
        table = ring_table(1000)
        self.assertIs(onto(table, [1]), True)
        self.assertIs(onto(table, [3]), False)
        self.assertIs(onto(table, [3] * 199 + [9]), True)
        self.assertIs(onto(table, [999] * 200), False)

    def test_what_is_handed_in_stays(self):
        table = ring_table(6)
        home = [3, 4]
        onto(table, home)
        self.assertEqual((table, home), (ring_table(6), [3, 4]))


class KinCase(unittest.TestCase):
    def assert_kin(self, one, other, limit=1000):
        """Looks at all that point 27 tells of groups that are kin, and gives forth and back."""
        handed = copy.deepcopy((one, other))
        told = kin(one, other, limit)
        self.assertEqual((one, other), handed)
        self.assertEqual([type(thing) for thing in told], [str, list, list])
        kind, forth, behind = told
        self.assertEqual(kind, "kin")
        first = table_of(*one)
        second = table_of(*other)
        homes_there = [home for home in homes_by_hand(one[0], one[1], second) if onto_by_hand(second, home)]
        self.assertEqual(forth, [least_ways(second)[room] for room in homes_there[0]])
        wanted = []
        for letter in range(1, other[0] + 1):
            for way in least_ways(first):
                if led(second, 0, filled_in(way, forth)) == led(second, 0, (letter,)):
                    wanted.append(way)
        self.assertEqual(behind, wanted)
        self.assertEqual({type(word) for word in forth + behind}, {tuple})
        self.assert_there_and_back(first, forth, behind)
        self.assert_there_and_back(second, behind, forth)
        return forth, behind

    def assert_there_and_back(self, table, forth, behind):
        for letter in range(1, len(forth) + 1):
            there = filled_in((letter,), forth)
            self.assertEqual(led(table, 0, filled_in(there, behind)), led(table, 0, (letter,)))

    def assert_onto(self, one, other, many):
        handed = copy.deepcopy((one, other))
        self.assertEqual(kin(one, other, 1000), ("onto", 0, many))
        self.assertEqual((one, other), handed)
        second = table_of(*other)
        self.assertEqual(len([home for home in homes_by_hand(other[0], other[1], second)
                              if onto_by_hand(second, home)]), many)
        self.assertEqual([home for home in homes_by_hand(one[0], one[1], second) if onto_by_hand(second, home)], [])


class Kin(KinCase):
    def test_a_group_and_itself(self):
        for group in [(1, ring(1)), (1, ring(2)), (1, ring(9)), (2, mirrors(5)), (2, THREE_POINTS), (2, EIGHT_ODD),
                      (2, FOUR_BY_TURN), (2, rings_beside(2, 2)), (2, FIVE_EVEN)]:
            self.assert_kin(group, group)

    def test_groups_told_otherwise(self):
        self.assertEqual(self.assert_kin((2, THREE_POINTS), (2, mirrors(3))), ([(2,), (1, 2)], [(2, 1), (1,)]))
        self.assertEqual(self.assert_kin((1, ring(6)), (2, rings_beside(2, 3))), ([(1, 2)], [(1, 1, 1), (-1, -1)]))
        self.assert_kin((2, rings_beside(2, 3)), (1, ring(6)))
        self.assert_kin((2, rings_beside(3, 5)), (2, rings_beside(1, 15)))
        self.assert_kin((2, mirrors(3)), (2, THREE_POINTS))
        self.assert_kin((2, FOUR_BY_TURN), (3, FOUR_POINTS))
        self.assert_kin((2, mirrors(6)), (2, [(1, 1), (2, 2), (1, 2) * 6]))
        self.assert_kin((2, EIGHT_ODD), (2, [(1, 1, -2, -2), (1, 2, -1, 2)]))
        self.assert_kin((3, [(1, 1), (2, 2), (3, 3), (1, 2, 3)]), (2, rings_beside(2, 2)))

    def test_groups_of_one_room(self):
        self.assertEqual(self.assert_kin((1, [(1,)]), (1, [(1,)])), ([()], [()]))
        self.assertEqual(self.assert_kin((2, [(1,), (2,)]), (1, [(1,)])), ([(), ()], [()]))
        self.assertEqual(self.assert_kin((1, [(1,)]), (3, [(1,), (2,), (3,)])), ([()], [(), (), ()]))
        letters = (200, [(letter,) for letter in range(1, 201)])
        self.assertEqual(kin(letters, letters, 1), ("kin", [()] * 200, [()] * 200))

    def test_by_the_first_home_that_is_onto(self):
        self.assertEqual(self.assert_kin((1, ring(5)), (1, ring(5))), ([(1,)], [(1,)]))
        self.assertEqual(self.assert_kin((1, ring(5)), (1, [(-1,) * 5])), ([(1,)], [(1,)]))
        self.assertEqual(self.assert_kin((1, ring(4)), (2, [(1, 1, -2), (2, 2)])), ([(1,)], [(1,), (1, 1)]))
        self.assertEqual(self.assert_kin((1, ring(4)), (2, [(2, 2, -1), (1, 1)])), ([(2,)], [(1, 1), (1,)]))

    def test_many_rooms(self):
        kind, forth, behind = kin((1, ring(1000)), (2, rings_beside(8, 125)), 1000)
        self.assertEqual((kind, forth), ("kin", [(1, 2)]))
        self.assertEqual([len(word) for word in behind], [375, 376])
        self.assertEqual(kin((1, ring(1000)), (1, ring(1000)), 1000), ("kin", [(1,)], [(1,)]))


class NotKin(KinCase):
    def test_unlike_numbers_of_rooms(self):
        self.assertEqual(kin((1, ring(3)), (1, ring(4)), 10), ("rooms", 3, 4))
        self.assertEqual(kin((1, ring(4)), (1, ring(3)), 10), ("rooms", 4, 3))
        self.assertEqual(kin((2, FIVE_EVEN), (1, ring(1)), 100), ("rooms", 60, 1))
        # There are far more than 5,000 lists, but none is asked for.
        self.assertEqual(kin((2, FIVE_EVEN), (2, mirrors(500)), 1000), ("rooms", 60, 1000))
        self.assertEqual(kin((3, FOUR_POINTS), (1, ring(25)), 1000), ("rooms", 24, 25))

    def test_no_home_is_onto(self):
        self.assert_onto((1, ring(4)), (2, rings_beside(2, 2)), 6)
        self.assert_onto((2, rings_beside(2, 2)), (1, ring(4)), 2)
        self.assert_onto((1, ring(6)), (2, THREE_POINTS), 6)
        self.assert_onto((2, THREE_POINTS), (1, ring(6)), 2)
        self.assert_onto((2, mirrors(4)), (2, EIGHT_ODD), 24)
        self.assert_onto((2, EIGHT_ODD), (2, mirrors(4)), 8)
        self.assert_onto((2, rings_beside(3, 4)), (2, mirrors(6)), 12)
        self.assert_onto((2, rings_beside(4, 4)), (2, rings_beside(2, 8)), 16)

    def test_kinds(self):
        told = kin((1, ring(3)), (1, ring(4)), 10)
        self.assertEqual([type(thing) for thing in told], [str, int, int])
        told = kin((1, ring(4)), (2, rings_beside(2, 2)), 10)
        self.assertEqual([type(thing) for thing in told], [str, int, int])


class Refused(KinCase):
    def assert_too_many(self, one, other, limit, group):
        with self.assertRaises(TooMany) as raised:
            kin(one, other, limit)
        error = raised.exception
        self.assertEqual(error.made, limit)
        self.assertEqual(len([row for row in error.rows if row[0] == "new"]), limit - 1)
        self.assertIsNone(judged(group[0], group[1], [], error.rows))
        with self.assertRaises(TooMany) as raised:
            fill(group[0], group[1], [], limit, "rooms")
        self.assertEqual([row for row in error.rows if row[0] == "new"],
                         [row for row in raised.exception.rows if row[0] == "new"])

    def test_too_many(self):
        free = (2, [(1, 1)])
        for limit in [1, 2, 7, 50]:
            self.assert_too_many(free, (1, ring(1)), limit, free)
            self.assert_too_many((1, ring(1)), free, limit, free)
            # Where both are refused, it is the first one.
            self.assert_too_many(free, (1, []), limit, free)
            self.assert_too_many((1, []), free, limit, (1, []))
        self.assert_too_many((1, ring(7)), (2, FIVE_EVEN), 20, (2, FIVE_EVEN))
        self.assert_too_many((1, ring(7)), (1, ring(8)), 6, (1, ring(7)))
        self.assert_too_many((1, ring(7)), (1, ring(8)), 7, (1, ring(8)))
        self.assertEqual(kin((1, ring(7)), (1, ring(8)), 8), ("rooms", 7, 8))

    def test_too_many_goes_ahead_of_too_great(self):
        self.assert_too_many((2, mirrors(40)), (1, []), 100, (1, []))

    def test_too_great_for_the_first(self):
        for one, other in [((2, mirrors(36)), (1, ring(72))), ((2, mirrors(36)), (2, mirrors(36))),
                           ((3, FOUR_POINTS), (3, FOUR_POINTS)), ((3, FOUR_POINTS), (1, ring(24)))]:
            with self.assertRaises(TooGreat):
                kin(one, other, 1000)

    def test_too_great_for_the_second(self):
        with self.assertRaises(TooGreat):
            kin((1, ring(72)), (2, mirrors(36)), 1000)
        with self.assertRaises(TooGreat):
            kin((2, rings_beside(4, 6)), (3, FOUR_POINTS), 1000)

    def test_not_too_great(self):
        # Of the first one's homes one is onto, so those of the second in its own table aren't asked for.
        self.assert_kin((2, FOUR_BY_TURN), (3, FOUR_POINTS))
        self.assert_kin((1, ring(72)), (2, rings_beside(8, 9)))
        self.assertEqual(kin((1, ring(70)), (2, mirrors(35)), 1000), ("onto", 0, 24 * 35))

    def test_the_rows_are_the_askers(self):
        with self.assertRaises(TooMany) as raised:
            kin((1, []), (1, []), 5)
        raised.exception.rows.clear()
        with self.assertRaises(TooMany) as raised:
            kin((1, []), (1, []), 5)
        self.assertEqual(len(raised.exception.rows), 4)


class TheAskersOwn(KinCase):
    def test_lists_that_are_changed(self):
        one = (2, list(THREE_POINTS))
        other = (2, mirrors(3))
        told = kin(one, other, 10)
        told[1].clear()
        told[2].append(())
        self.assertEqual(kin(one, other, 10), ("kin", [(2,), (1, 2)], [(2, 1), (1,)]))
        told = kin(one, other, 10)
        one[1].clear()
        other[1].clear()
        self.assertEqual(told, ("kin", [(2,), (1, 2)], [(2, 1), (1,)]))


if __name__ == "__main__":
    unittest.main()
