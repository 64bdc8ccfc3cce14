import copy
import unittest

from cosetyard.errors import NoOrder, TooMany
from cosetyard.filling import fill
from cosetyard.tables import led
from helper import (EIGHT_ODD, FIVE_EVEN, FOUR_BY_TURN, GROUPS, THREE_POINTS, Chance, Plain, Walker, first_gap,
                    mirrors, ring, some_word)

ORDERS = ["rooms", "letters", "newest"]


def one_way(known, room, step):
    return min(known.get((room, step), [None]))


def trail(known, room, word):
    """The rooms that the word's steps come to one after the other, None where no way is known."""
    rooms = [room]
    for step in word:
        rooms.append(None if rooms[-1] is None else one_way(known, rooms[-1], step))
    return rooms


def unknown_that_follow(known, standing, rules, part):
    """The ways of point 14 that aren't known. The room b that leads to c by the steps behind the place is come to
    from c by these steps' backs."""
    found = []
    for word, rooms in [(rule, standing) for rule in rules] + [(word, [0]) for word in part]:
        for c in rooms:
            ahead = trail(known, c, word)
            behind = trail(known, c, [-step for step in reversed(word)])[::-1]
            for at, step in enumerate(word):
                if None not in (ahead[at], behind[at + 1]) and one_way(known, ahead[at], step) != behind[at + 1]:
                    found.append((ahead[at], step, behind[at + 1]))
    return found


class Filler(Walker):
    """A walker that looks, ahead of each row "new", whether it's the time and the place for a room to be made."""

    def __init__(self, case, letters, rules, part, order):
        Walker.__init__(self, case, letters, rules, part)
        self.letters = letters
        self.order = order
        self.handed = (rules, part)

    def new(self, row, told):
        self.assert_closed(told)
        self.case.assertEqual(row[1:3], self.gap(), told)
        Walker.new(self, row, told)

    def assert_closed(self, told):
        self.case.assertEqual(self.clashes, set(), told)
        self.case.assertEqual(unknown_that_follow(self.known, sorted(self.left), *self.handed), [], told)

    def gap(self):
        return first_gap(self.order, self.letters, self.left, self.known)

    def numbered(self):
        """The known ways as a table, by the words of point 18."""
        names = [0]
        for room in names:
            for step in self.steps:
                if one_way(self.known, room, step) not in names:
                    names.append(one_way(self.known, room, step))
        self.case.assertEqual(sorted(names), sorted(self.left))
        return [[names.index(one_way(self.known, room, step)) for step in self.steps] for room in names]


def rows_new(paper):
    return [row for row in paper if row[0] == "new"]


class FillingCase(unittest.TestCase):
    def filled(self, letters, rules, part, limit, order="rooms"):
        """Fills, walks the paper from its beginning, and gives the table and how many rooms were made."""
        handed = copy.deepcopy((rules, part))
        told = fill(letters, rules, part, limit, order)
        self.assertEqual((rules, part), handed)
        self.assertIs(type(told), tuple)
        table, paper = told
        self.assertEqual([type(thing) for thing in [table, paper] + table], [list] * (2 + len(table)))
        walker = Filler(self, letters, rules, part, order).walk(paper)
        walker.assert_closed("the end")
        self.assertIsNone(walker.gap())
        self.assertEqual(table, walker.numbered())
        self.assertLessEqual(walker.made, limit)
        for room in range(len(table)):
            for rule in rules:
                self.assertEqual(led(table, room, rule), room)
        for word in part:
            self.assertEqual(led(table, 0, word), 0)
        return table, walker.made

    def refused(self, letters, rules, part, limit, order="rooms"):
        """Is refused, and walks the paper till then; gives that paper."""
        handed = copy.deepcopy((rules, part))
        with self.assertRaises(TooMany) as raised:
            fill(letters, rules, part, limit, order)
        self.assertEqual((rules, part), handed)
        error = raised.exception
        self.assertEqual(error.made, limit)
        self.assertIs(type(error.rows), list)
        walker = Filler(self, letters, rules, part, order).walk(error.rows)
        walker.assert_closed("the end")
        self.assertIsNotNone(walker.gap())
        self.assertEqual(walker.made, limit)
        self.assertEqual(len(rows_new(error.rows)), limit - 1)
        return error.rows


class Groups(FillingCase):
    def test_the_number_of_rooms(self):
        for letters, rules, part, size in GROUPS:
            for order in ORDERS:
                table, made = self.filled(letters, rules, part, 200, order)
                self.assertEqual(len(table), size, (letters, rules, part, order))
                self.assertGreaterEqual(made, size)

    def test_the_same_table_by_each_order(self):
        for letters, rules, part, size in GROUPS:
            tables = [fill(letters, rules, part, 200, order)[0] for order in ORDERS]
            self.assertEqual(tables[1:], tables[:1] * 2, (letters, rules, part))

    def test_just_enough_and_one_less(self):
        for letters, rules, part, size in GROUPS:
            for order in ORDERS:
                table, made = self.filled(letters, rules, part, 200, order)
                self.assertEqual(self.filled(letters, rules, part, made, order), (table, made))
                if made > 1:
                    rows = self.refused(letters, rules, part, made - 1, order)
                    paper = fill(letters, rules, part, made, order)[1]
                    self.assertEqual(rows_new(paper)[:-1], rows_new(rows))

    def test_where_rooms_went(self):
        few = [(2, [(1, 2, 1, -2, -1, -2), (1, 1, 1)], 24), (2, [(1, 2, -1, -2, -2), (2, 1, -2, -1, -1)], 1),
               (2, [(1, 1, 2, 2, 2), (1, 1, 1, 2, 2)], 5), (1, [(1,) * 12, (1,) * 18], 6)]
        for letters, rules, size in few:
            table, made = self.filled(letters, rules, [], 200)
            self.assertEqual(len(table), size)
            self.assertGreater(made, size)
            self.assertEqual(self.filled(letters, rules, [], made), (table, made))
            # Rooms that went count too: there are fewer rooms than this limit, and yet it is met.
            self.refused(letters, rules, [], max(size, made - 1))

    def test_tables(self):
        self.assertEqual(fill(1, ring(3), [], 3)[0], [[1, 2], [2, 0], [0, 1]])
        self.assertEqual(fill(1, ring(4), [], 4)[0], [[1, 2], [3, 0], [0, 3], [2, 1]])
        self.assertEqual(fill(1, ring(1), [], 1), ([[0, 0]], [("rule", 0, (0, 0), 0)]))
        self.assertEqual(fill(2, THREE_POINTS, [(1,)], 9)[0], [[0, 0, 1, 1], [2, 2, 0, 0], [1, 1, 2, 2]])
        self.assertEqual(fill(2, EIGHT_ODD, [(1,)], 9)[0], [[0, 0, 1, 1], [1, 1, 0, 0]])

    def test_unlike_rooms_made_by_each_order(self):
        """Each order makes its own rooms, so none of them stands for another."""
        made = [[row[1:3] for row in rows_new(fill(2, FOUR_BY_TURN, [], 100, order)[1])][:4] for order in ORDERS]
        self.assertEqual(made[0], [(0, 1), (0, -1), (0, 2), (1, 1)])
        self.assertEqual(made[1], [(0, 1), (1, 1), (2, 1), (0, 2)])
        self.assertEqual(made[2], [(0, 1), (1, 1), (2, 1), (3, 2)])
        self.assertEqual(rows_new(fill(1, ring(4), [], 9, "rooms")[1]), [("new", 0, 1, 1), ("new", 0, -1, 2),
                                                                        ("new", 1, 1, 3)])
        self.assertEqual(rows_new(fill(1, ring(4), [], 9, "newest")[1]), [("new", 0, 1, 1), ("new", 1, 1, 2),
                                                                         ("new", 2, 1, 3)])

    def test_some_groups_against_a_plain_filling(self):
        outcomes = {True: 0, False: 0}
        for seed in range(600):
            chance = Chance(seed)
            letters = 1 + seed % 3
            rules = [some_word(chance, letters, 6) for place in range(1 + chance.below(4))]
            part = [some_word(chance, letters, 4) for place in range(chance.below(3))]
            for order in ORDERS:
                outcomes[self.assert_as_plain(letters, rules, part, 1 + chance.below(14), order)] += 1
        self.assertGreater(min(outcomes.values()), 100)

    def assert_as_plain(self, letters, rules, part, limit, order):
        """Filled once more beside the program, by the words of point 17."""
        plain = Plain(letters)
        made = []
        while True:
            plain.close(rules, part)
            gap = first_gap(order, letters, plain.standing, plain.known)
            if gap is None or plain.made == limit:
                break
            made.append(("new",) + gap + (plain.made,))
            plain.make(*gap)
        if gap is not None:
            self.assertEqual(rows_new(self.refused(letters, rules, part, limit, order)), made)
        else:
            table, many = self.filled(letters, rules, part, limit, order)
            self.assertEqual((len(table), many), (len(plain.standing), plain.made))
            self.assertEqual(rows_new(fill(letters, rules, part, limit, order)[1]), made)
        return gap is None


class TheOrder(FillingCase):
    def test_left_out_it_is_rooms(self):
        for letters, rules, part, size in GROUPS:
            self.assertEqual(rows_new(fill(letters, rules, part, 200)[1]),
                             rows_new(fill(letters, rules, part, 200, "rooms")[1]))
        self.assertNotEqual(rows_new(fill(1, ring(7), [], 9)[1]), rows_new(fill(1, ring(7), [], 9, "newest")[1]))

    def test_by_its_name(self):
        self.assertEqual(rows_new(fill(1, ring(7), [], 9, order="newest")[1]),
                         rows_new(fill(1, ring(7), [], 9, "newest")[1]))

    def test_every_other_name_is_refused(self):
        for name in ["", "Rooms", "room", "rooms ", " letters", "newest,", "oldest", "ROOMS", "1"]:
            with self.assertRaises(NoOrder):
                fill(1, ring(3), [], 10, name)

    def test_refused_ahead_of_all_else(self):
        for letters, rules, part, limit in [(1, [], [], 1), (2, [], [], 1000), (1, ring(3), [], 1), (1, ring(3), [], 2),
                                            (1, [(1,)], [], 1), (200, [()], [()], 5)]:
            with self.assertRaises(NoOrder):
                fill(letters, rules, part, limit, "none")


class Refused(FillingCase):
    def test_no_rules(self):
        for letters in [1, 2, 5]:
            for order in ORDERS:
                for limit in [1, 2, 3, 40]:
                    self.refused(letters, [], [], limit, order)
                    self.refused(letters, [()], [(), ()], limit, order)
                    self.refused(letters, [(1, -1), (-1, 1)], [(1, -1)], limit, order)

    def test_a_limit_of_one(self):
        self.assertEqual(self.refused(1, [], [], 1), [])
        self.assertEqual(self.refused(1, ring(2), [], 1), [])
        self.assertEqual(self.refused(2, [(1,)], [], 1), [("rule", 0, (0, 0), 0)])
        self.assertEqual(self.filled(1, [], [(1,)], 1), ([[0, 0]], 1))
        self.assertEqual(self.filled(2, [(1,), (1, 2)], [], 1), ([[0, 0, 0, 0]], 1))

    def test_it_is_closed_ahead_of_the_limit(self):
        self.assertEqual(self.filled(1, ring(2), [], 2), ([[1, 1], [0, 0]], 2))
        self.assertEqual(len(self.refused(1, ring(2) + [(1,) * 1999], [(1, 1, 1, 1)], 1)), 0)
        self.assertEqual(self.filled(1, [(1, 1), (1, 1, 1)], [], 2), ([[0, 0]], 2))

    def test_rows_till_then(self):
        self.assertEqual(self.refused(1, [], [], 4), [("new", 0, 1, 1), ("new", 0, -1, 2), ("new", 1, 1, 3)])
        self.assertEqual(self.refused(1, [], [], 4, "newest"), [("new", 0, 1, 1), ("new", 1, 1, 2), ("new", 2, 1, 3)])
        self.assertEqual(self.refused(2, [], [], 4, "letters"), [("new", 0, 1, 1), ("new", 1, 1, 2), ("new", 2, 1, 3)])
        self.assertEqual(self.refused(2, [], [(1, 1, 2)], 3)[:2], [("new", 0, 1, 1), ("new", 0, -1, 2)])


class Bounds(FillingCase):
    def test_a_thousand_rooms(self):
        for order in ORDERS:
            table, paper = fill(1, ring(1000), [], 1000, order)
            self.assertEqual(len(table), 1000)
            self.assertEqual(Walker(self, 1, ring(1000)).walk(paper).made, 1000)
            self.assertEqual(led(table, 0, (1,) * 999), table[0][1])
            with self.assertRaises(TooMany) as raised:
                fill(1, ring(1000), [], 999, order)
            self.assertEqual((raised.exception.made, len(rows_new(raised.exception.rows))), (999, 998))
        self.assertEqual(len(fill(2, mirrors(500), [], 1000)[0]), 1000)
        self.assertEqual(len(fill(2, mirrors(1000), [(2,)], 1000, "newest")[0]), 1000)

    def test_a_thousand_rooms_made_and_gaps_left(self):
        for letters in [1, 2, 200]:
            for order in ORDERS:
                with self.assertRaises(TooMany) as raised:
                    fill(letters, [], [], 1000, order)
                self.assertEqual((raised.exception.made, len(raised.exception.rows)), (1000, 999))
                Walker(self, letters).walk(raised.exception.rows)

    def test_two_hundred_letters(self):
        rules = [(letter,) for letter in range(1, 200)]
        for order in ORDERS:
            table, paper = fill(200, rules + [(200,) * 3], [], 3, order)
            self.assertEqual(table, [[0] * 398 + [1, 2], [1] * 398 + [2, 0], [2] * 398 + [0, 1]])
            Walker(self, 200, rules + [(200,) * 3]).walk(paper)
        self.assertEqual(fill(200, rules, [(200,)], 1)[0], [[0] * 400])
        pairs = [(letter, letter + 1) for letter in range(1, 200)] + [(1,) * 5]
        self.assertEqual(len(self.filled(200, pairs, [], 1000)[0]), 5)

    def test_a_rule_of_two_thousand_steps(self):
        for order in ORDERS:
            with self.assertRaises(TooMany) as raised:
                fill(1, ring(2000), [], 1000, order)
            self.assertEqual(raised.exception.made, 1000)
            table, paper = fill(1, [(1,) * 2000, (1,) * 900], [], 1000, order)
            self.assertEqual(len(table), 100)
            Walker(self, 1, [(1,) * 2000, (1,) * 900]).walk(paper)
        table, paper = fill(2, [(1, 1), (2, 2), (1, 2) * 1000], [(1,)], 1000)
        self.assertEqual((len(table), len(rows_new(paper))), (1000, 999))
        Walker(self, 2, [(1, 1), (2, 2), (1, 2) * 1000], [(1,)]).walk(paper)
        self.assertEqual(len(self.filled(1, [(1,) * 6], [(-1,) * 2000], 10)[0]), 2)

    def test_four_hundred_rules_and_sixty_words(self):
        rules = [(1,) * (6 + 6 * (number % 7)) for number in range(199)] + [()] * 100 + [(2,) * 5, (1, 2, -1, -2)] * 50
        part = [(1,) * (4 * number) for number in range(1, 50)] + [()] * 10 + [(2, 1, -2, -1)]
        rules.append(())
        self.assertEqual((len(rules), len(part)), (400, 60))
        for order in ORDERS:
            table, made = self.filled(2, rules, part, 1000, order)
            self.assertEqual(len(table), 10)
        self.assertEqual(len(fill(2, [()] * 300 + rules[-101:] + [(1,) * 9], [()] * 59 + [(1, 1, 1)], 1000)[0]), 15)

    def test_four_hundred_rules_of_two_thousand_steps(self):
        with self.assertRaises(TooMany) as raised:
            fill(1, [(1,) * 2000] * 400, [(-1,) * 2000] * 60, 1000)
        self.assertEqual(len(raised.exception.rows), 999)
        table, paper = fill(2, [(1, 2) * 1000, (2, 1) * 1000] * 199 + [(1, 1), (2, 2)], [(1,)] * 60, 1000, "letters")
        self.assertEqual((len(table), len(rows_new(paper))), (1000, 999))

    def test_empty_words_count_for_the_places(self):
        rows = fill(2, [(), (1, 1), ()], [(), (2,), (1, 2, -1)], 9)[1]
        self.assertEqual({row[1] for row in rows if row[0] == "rule"}, {1, 4, 5})

    def test_a_group_of_many_rooms_with_rooms_gone(self):
        rules = [(1,) * 6, (2, 2), (1, 2) * 5, (1, 2, -1, 2) * 3, (1, 1, 2, -1, -1, 2) * 2]
        tables = []
        for order in ORDERS:
            table, paper = fill(2, rules, [], 1000, order)
            tables.append(table)
            Walker(self, 2, rules).walk(paper)
        self.assertEqual(len(tables[0]), 720)
        self.assertEqual(tables[1:], tables[:1] * 2)


class TheAskersOwn(FillingCase):
    def test_a_table_and_a_paper_that_are_changed(self):
        whole = copy.deepcopy(fill(2, FOUR_BY_TURN, [(2,)], 100, "letters"))
        table, paper = fill(2, FOUR_BY_TURN, [(2,)], 100, "letters")
        table[0][0] = 99
        table[1].clear()
        table.pop()
        paper.clear()
        self.assertEqual(fill(2, FOUR_BY_TURN, [(2,)], 100, "letters"), whole)

    def test_rows_of_the_table_are_lists_of_their_own(self):
        table = fill(200, [(letter,) for letter in range(1, 200)] + [(200,) * 3], [], 3)[0]
        table[0][0] = 7
        self.assertEqual([row[0] for row in table], [7, 1, 2])

    def test_the_rows_of_a_refusal(self):
        rows = self.refused(1, ring(7), [], 5)
        whole = list(rows)
        rows.clear()
        self.assertEqual(self.refused(1, ring(7), [], 5), whole)

    def test_rules_that_are_changed_behind(self):
        rules = [(1,) * 7]
        part = [(1,) * 7]
        table, paper = fill(1, rules, part, 9)
        whole = copy.deepcopy((table, paper))
        rules.clear()
        part[0] = (1,)
        self.assertEqual((table, paper), whole)

    def test_one_list_as_rules_and_part(self):
        words = [(1, 1, 1), ()]
        self.assertEqual(len(self.filled(1, words, words, 9)[0]), 3)

    def test_asked_again(self):
        for letters, rules, part, size in GROUPS:
            self.assertEqual(fill(letters, rules, part, 200), fill(letters, rules, part, 200))

    def test_kinds(self):
        table, paper = fill(2, FIVE_EVEN, [], 100)
        self.assertEqual({type(number) for row in table for number in row}, {int})
        self.assertEqual({type(row) for row in paper}, {tuple})
        self.assertEqual({type(row[2]) for row in paper if row[0] == "rule"}, {tuple})


if __name__ == "__main__":
    unittest.main()
