import copy
import unittest

from cosetyard.errors import TooMany
from cosetyard.filling import fill
from cosetyard.judge import judged
from helper import FIVE_EVEN, FOUR_POINTS, GROUPS, Chance, mirrors, ring, steps_in_order

HUGE = 10 ** 30

RULES = [(1, 1, 1), (), (1, 2, -1, -2)]
PART = [(2,), ()]
# The words by their places: 0 turns three rooms round, 2 lets both letters change places, 3 keeps room 0.
PAPER = [("new", 0, 1, 1), ("new", 1, 1, 2), ("rule", 0, (0, 1, 2, 0), 2), ("rule", 3, (0, 0), 0), ("new", 1, 2, 3),
         ("rule", 2, (0, 1, 3, 0, 0), 2), ("meet", 0, 1, 1, 3)]
# Behind it the rooms 0, 1 and 2 stand, room 3 went, and no way is known from room 2 by 2 and -2.


class ByHand:
    """Point 12 once more, with all known ways in one set and looked through whole at each row."""

    def __init__(self, letters, rules, part):
        self.steps = steps_in_order(letters)
        self.words = rules + part
        self.rules = len(rules)
        self.rooms = [True]
        self.known = set()

    def stands(self, room):
        return room in range(len(self.rooms)) and self.rooms[room]

    def learn(self, room, step, other):
        self.known.update([(room, step, other), (other, -step, room)])

    def new(self, room, step, number):
        if not (self.stands(room) and step in self.steps and number == len(self.rooms)):
            return False
        if any(way[:2] == (room, step) for way in self.known):
            return False
        self.rooms.append(True)
        self.learn(room, step, number)
        return True

    def rule(self, which, path, at):
        if which not in range(len(self.words)):
            return False
        word = self.words[which]
        if at not in range(len(word)) or len(path) != len(word) + 1:
            return False
        if not all(self.stands(room) for room in path) or path[0] != path[-1]:
            return False
        if which >= self.rules and path[0] != 0:
            return False
        ways = list(zip(path, word, path[1:]))
        if not all(way in self.known for place, way in enumerate(ways) if place != at):
            return False
        self.learn(*ways[at])
        return True

    def meet(self, room, step, less, more):
        if not (less < more and {(room, step, less), (room, step, more)} <= self.known):
            return False
        self.known = {(less if a == more else a, s, less if b == more else b) for a, s, b in self.known}
        self.rooms[more] = False
        return True


def judged_by_hand(letters, rules, part, paper):
    judge = ByHand(letters, rules, part)
    for place, row in enumerate(paper):
        if not {"new": judge.new, "rule": judge.rule, "meet": judge.meet}[row[0]](*row[1:]):
            return place
    return None


def paper_of(letters, rules, part, limit, order="rooms"):
    try:
        return fill(letters, rules, part, limit, order)[1]
    except TooMany as error:
        return error.rows


class JudgeCase(unittest.TestCase):
    def assert_judged(self, letters, rules, part, paper, place):
        handed = copy.deepcopy((rules, part, paper))
        self.assertEqual(judged_by_hand(letters, rules, part, paper), place, paper[-3:])
        told = judged(letters, rules, part, paper)
        self.assertEqual(told, place, paper[-3:])
        self.assertIn(type(told), [int, type(None)])
        self.assertEqual((rules, part, paper), handed)

    def assert_right(self, *rows):
        self.assert_judged(2, RULES, PART, PAPER + list(rows), None)

    def assert_wrong(self, *rows):
        """The last of these rows isn't right behind the paper, whatever comes behind it."""
        self.assert_judged(2, RULES, PART, PAPER + list(rows), len(PAPER) + len(rows) - 1)
        self.assert_judged(2, RULES, PART, PAPER + list(rows) + [("new", 2, 2, 4), ("new", -1, 0, -1)],
                           len(PAPER) + len(rows) - 1)


class AllRight(JudgeCase):
    def test_no_rows(self):
        self.assert_judged(1, [], [], [], None)
        self.assert_judged(2, RULES, PART, [], None)

    def test_papers_of_filling_and_of_what_was_refused(self):
        for letters, rules, part, size in GROUPS:
            for order in ["rooms", "letters", "newest"]:
                for limit in [1, 2, 5, 11, 200]:
                    self.assertIsNone(judged(letters, rules, part, paper_of(letters, rules, part, limit, order)))

    def test_their_beginnings(self):
        for letters, rules, part, size in GROUPS:
            paper = paper_of(letters, rules, part, 25)
            for end in range(len(paper)):
                self.assertIsNone(judged(letters, rules, part, paper[:end]))

    def test_no_rules(self):
        self.assertIsNone(judged(2, [], [], paper_of(2, [], [], 1000, "letters")))

    def test_the_paper_by_hand_and_its_beginnings(self):
        for end in range(len(PAPER) + 1):
            self.assert_judged(2, RULES, PART, PAPER[:end], None)

    def test_a_rule_that_tells_what_is_known_already(self):
        self.assert_right(("rule", 0, (0, 1, 2, 0), 0))
        self.assert_right(("rule", 0, (1, 2, 0, 1), 1), ("rule", 0, (1, 2, 0, 1), 1), ("rule", 3, (0, 0), 0))
        self.assert_judged(1, [(1, -1)], [], [("new", 0, 1, 1), ("rule", 0, (0, 1, 0), 0)], None)

    def test_each_kind_of_row_behind_the_paper(self):
        self.assert_right(("new", 2, 2, 4), ("new", 2, -2, 5), ("new", 4, -1, 6))
        self.assert_right(("rule", 2, (2, 0, 0, 2, 2), 3), ("rule", 2, (2, 0, 0, 2, 2), 0))
        self.assert_right(("new", 2, 2, 4), ("rule", 2, (1, 2, 4, 1, 1), 2), ("meet", 1, 1, 2, 4))

    def test_both_ways_are_known_until_a_row_meet(self):
        ahead = PAPER[:6]
        for rows in [[("new", 2, 2, 4)], [("new", 3, 1, 4)], [("rule", 2, (0, 3, 3, 0, 0), 1)],
                     [("rule", 2, (0, 1, 3, 0, 0), 0), ("rule", 2, (0, 3, 3, 0, 0), 1), ("rule", 0, (0, 3, 2, 0), 1)]]:
            self.assert_judged(2, RULES, PART, ahead + rows, None)
            self.assert_judged(2, RULES, PART, ahead + rows + [("meet", 0, 1, 1, 3)], None)

    def test_a_row_meet_by_a_way_that_another_one_brought(self):
        rules = [(1, -2), (1, 2)]
        ahead = [("new", 0, 1, 1), ("new", 0, 2, 2), ("new", 1, 1, 3), ("new", 2, 1, 4)]
        first = [("rule", 0, (0, 1, 0), 1), ("meet", 0, 2, 1, 2)]
        self.assert_judged(2, rules, [], ahead + first + [("meet", 1, 1, 3, 4)], None)
        self.assert_judged(2, rules, [], ahead + [("meet", 1, 1, 3, 4)], 4)

    def test_rooms_that_are_led_to_themselves(self):
        rules = [(1,), (2, -1)]
        ahead = [("new", 0, 1, 1), ("new", 1, 1, 2), ("rule", 0, (1, 1), 0)]
        for meets in [[("meet", 1, 1, 1, 2), ("meet", 1, -1, 0, 1)], [("meet", 1, -1, 0, 1), ("meet", 0, 1, 0, 2)]]:
            self.assert_judged(2, rules, [], ahead + meets, None)
            self.assert_judged(2, rules, [], ahead + meets + [("new", 0, 1, 3)], 5)
            self.assert_judged(2, rules, [], ahead + meets + [("new", 0, 2, 3), ("rule", 1, (0, 3, 0), 1)], None)


    def test_a_room_that_is_led_to_itself_goes(self):
        rules = [(2,), (1,), (2, -3)]
        paper = [("new", 0, 1, 1), ("rule", 0, (1, 1), 0), ("rule", 1, (0, 0), 0), ("meet", 0, 1, 0, 1)]
        self.assert_judged(3, rules, [], paper + [("rule", 2, (0, 0, 0), 1)], None)
        self.assert_judged(3, rules, [], paper + [("new", 0, 2, 2)], 4)
        self.assert_judged(3, rules, [], paper + [("new", 0, -2, 2)], 4)


class NewRows(JudgeCase):
    def test_a_room_that_does_not_stand(self):
        for room in [3, 4, 5, -1, -2, -3, HUGE, -HUGE]:
            self.assert_wrong(("new", room, 2, 4))
            self.assert_wrong(("new", room, -1, 4))

    def test_a_step_that_is_none(self):
        for step in [0, 3, -3, 4, 200, HUGE, -HUGE]:
            self.assert_wrong(("new", 2, step, 4))
        for letters in [1, 2, 200]:
            for step in [letters, -letters]:
                self.assert_judged(letters, [], [], [("new", 0, step, 1)], None)
            for step in [letters + 1, -letters - 1]:
                self.assert_judged(letters, [], [], [("new", 0, step, 1)], 0)

    def test_a_step_whose_way_is_known(self):
        for room in range(3):
            for step in [1, -1]:
                self.assert_wrong(("new", room, step, 4))
        for row in [("new", 0, 2, 4), ("new", 0, -2, 4), ("new", 1, 2, 4), ("new", 1, -2, 4)]:
            self.assert_wrong(row)
        self.assert_wrong(("new", 2, 2, 4), ("new", 2, 2, 5))
        self.assert_wrong(("new", 2, 2, 4), ("new", 4, -2, 5))

    def test_another_number(self):
        for number in [0, 1, 2, 3, 5, 6, -1, -4, HUGE, -HUGE]:
            self.assert_wrong(("new", 2, 2, number))
        self.assert_judged(1, [], [], [("new", 0, 1, 0)], 0)
        self.assert_judged(1, [], [], [("new", 0, 1, 2)], 0)


class RuleRows(JudgeCase):
    def test_which_is_none(self):
        for which in [-1, -2, -5, 5, 6, HUGE, -HUGE]:
            self.assert_wrong(("rule", which, (0, 0), 0))
            self.assert_wrong(("rule", which, (0, 1, 2, 0), 0))
            self.assert_wrong(("rule", which, (0,), 0))
        self.assert_judged(1, [], [], [("rule", 0, (0, 0), 0)], 0)
        self.assert_judged(1, [], [], [("rule", -1, (0, 0), 0)], 0)

    def test_a_word_of_the_part_from_another_room(self):
        self.assert_wrong(("rule", 3, (1, 1), 0))
        self.assert_wrong(("rule", 3, (2, 2), 0))
        self.assert_right(("rule", 3, (0, 0), 0))
        # The same word as a rule is gone round from each room.
        self.assert_judged(2, [(2,)], [], [("new", 0, 1, 1), ("rule", 0, (1, 1), 0)], None)
        self.assert_judged(2, [], [(2,)], [("new", 0, 1, 1), ("rule", 0, (1, 1), 0)], 1)
        self.assert_judged(2, [(2,)], [(2,)], [("new", 0, 1, 1), ("rule", 1, (1, 1), 0)], 1)

    def test_an_empty_word(self):
        for which in [1, 4]:
            for path in [(0,), (), (0, 0), (1,)]:
                for at in [0, -1, 1]:
                    self.assert_wrong(("rule", which, path, at))

    def test_a_place_that_is_none(self):
        for at in [-1, -2, -3, -4, 3, 4, HUGE, -HUGE]:
            self.assert_wrong(("rule", 0, (0, 1, 2, 0), at))
        for at in [-1, 1, 2]:
            self.assert_wrong(("rule", 3, (0, 0), at))

    def test_a_path_of_another_length(self):
        for at in range(3):
            for path in [(), (0,), (0, 0), (0, 1, 2), (0, 1, 2, 0, 0), (0, 1, 2, 0, 1, 2, 0),
                         (0, 1, 2, 0) * 500 + (0,)]:
                self.assert_wrong(("rule", 0, path, at))
        for path in [(), (0,), (0, 0, 0), (0,) * 2001]:
            self.assert_wrong(("rule", 3, path, 0))

    def test_rooms_that_do_not_stand(self):
        self.assert_wrong(("rule", 2, (0, 1, 3, 0, 0), 2))
        for room in [3, 4, -1, -3, HUGE, -HUGE]:
            for at in range(3):
                self.assert_wrong(("rule", 0, (0, 1, room, 0), at))
                self.assert_wrong(("rule", 0, (room, 0, 1, room), at))
        # In a rule of one step no other way speaks of the path's room.
        ahead = [("new", 0, 2, 1), ("rule", 0, (0, 0), 0), ("new", 1, 2, 2), ("rule", 1, (0, 1, 0), 1),
                 ("meet", 1, 2, 0, 2)]
        for room in [2, 3, -1, -2, HUGE, -HUGE]:
            self.assert_judged(2, [(1,), (2, 2)], [], ahead + [("rule", 0, (room, room), 0)], 5)
        self.assert_judged(2, [(1,), (2, 2)], [], ahead + [("rule", 0, (1, 1), 0)], None)

    def test_an_end_unlike_the_beginning(self):
        self.assert_wrong(("rule", 0, (0, 1, 2, 1), 2))
        self.assert_wrong(("rule", 0, (1, 1, 2, 0), 0))
        self.assert_wrong(("rule", 3, (0, 1), 0))
        self.assert_wrong(("rule", 3, (1, 0), 0))
        self.assert_judged(2, [(2,)], [], [("new", 0, 1, 1), ("rule", 0, (0, 1), 0)], 1)

    def test_a_way_that_is_not_known(self):
        for at in range(3):
            self.assert_wrong(("rule", 2, (2, 0, 0, 2, 2), at))
        self.assert_wrong(("rule", 0, (0, 2, 1, 0), 0))
        self.assert_wrong(("rule", 0, (1, 2, 0, 1), 0), ("rule", 0, (1, 1, 0, 1), 0))
        self.assert_wrong(("new", 2, 2, 4), ("rule", 0, (4, 4, 4, 4), 0))
        self.assert_judged(1, [(1, 1)], [], [("rule", 0, (0, 0, 0), 0)], 0)
        self.assert_judged(1, [(1, -1)], [], [("rule", 0, (0, 0, 0), 0)], 0)

    def test_each_place_of_a_long_rule(self):
        ahead = [("new", room, 1, room + 1) for room in range(9)]
        path = tuple(range(10)) + (0,)
        for at in range(10):
            self.assert_judged(1, ring(10), [], ahead + [("rule", 0, path, at)], None if at == 9 else 9)
        for wrong in range(1, 9):
            other = path[:wrong] + (9,) + path[wrong + 1:]
            self.assert_judged(1, ring(10), [], ahead + [("rule", 0, other, 9)], 9)


class MeetRows(JudgeCase):
    ahead = PAPER[:6]

    def assert_behind(self, rows, wrong):
        self.assert_judged(2, RULES, PART, self.ahead + rows, len(self.ahead) + len(rows) - 1 if wrong else None)

    def test_less_is_not_less(self):
        self.assert_behind([("meet", 0, 1, 1, 3)], False)
        for less, more in [(3, 1), (1, 1), (3, 3)]:
            self.assert_behind([("meet", 0, 1, less, more)], True)
        self.assert_wrong(("meet", 0, 1, 1, 1))

    def test_a_way_that_is_not_known(self):
        for less, more in [(1, 2), (0, 1), (0, 3), (2, 3), (0, 2), (1, 4), (-1, 1), (-1, 3), (1, HUGE), (-HUGE, 3)]:
            self.assert_behind([("meet", 0, 1, less, more)], True)
        for room, step in [(0, -1), (0, 2), (1, 1), (2, 1), (3, 1), (4, 1), (-1, 1), (0, 0), (0, 3), (0, HUGE),
                           (HUGE, 1), (-HUGE, -HUGE)]:
            self.assert_behind([("meet", room, step, 1, 3)], True)

    def test_a_way_that_another_row_changed(self):
        self.assert_wrong(("meet", 0, 1, 1, 3))
        self.assert_wrong(("meet", 1, 2, 1, 3))
        self.assert_wrong(("meet", 3, 2, 1, 3))
        # Room 0 leads to three rooms by 1. When 2 went into 1, the way to 2 isn't there any more.
        rules = [(1, -2)]
        ahead = [("new", 0, 1, 1), ("new", 0, 2, 2), ("rule", 0, (0, 2, 0), 0), ("new", 2, 2, 3),
                 ("rule", 0, (2, 3, 2), 0), ("meet", 0, 1, 1, 2)]
        self.assert_judged(2, rules, [], ahead, None)
        for row in [("meet", 0, 1, 1, 2), ("meet", 2, 1, 1, 3), ("meet", 0, 2, 1, 2)]:
            self.assert_judged(2, rules, [], ahead + [row], 6)
        self.assert_judged(2, rules, [], ahead + [("new", 3, 1, 4), ("rule", 0, (3, 4, 3), 1)], None)

    def test_three_rooms_met_in_each_order(self):
        rules = [(1, -2), (1, -3)]
        ahead = [("new", 0, 1, 1), ("new", 0, 2, 2), ("new", 0, 3, 3), ("rule", 0, (0, 2, 0), 0),
                 ("rule", 1, (0, 3, 0), 0)]
        pairs = [(1, 2), (1, 3), (2, 3)]
        for first in pairs:
            self.assert_judged(3, rules, [], ahead + [("meet", 0, 1) + first], None)
            for second in pairs:
                rows = [("meet", 0, 1) + first, ("meet", 0, 1) + second]
                self.assert_judged(3, rules, [], ahead + rows, 6 if first[1] in second else None)

    def test_right_at_once_where_both_are_known(self):
        self.assert_behind([("rule", 2, (0, 3, 3, 0, 0), 1), ("meet", 3, -2, 1, 3)], False)
        self.assert_behind([("meet", 3, -2, 1, 3)], True)


class TheFirst(JudgeCase):
    def test_the_first_of_several(self):
        wrong = ("new", -1, 0, -1)
        for place in range(len(PAPER)):
            self.assert_judged(2, RULES, PART, PAPER[:place] + [wrong] + PAPER[place:], place)
            self.assert_judged(2, RULES, PART, PAPER[:place] + [wrong] * 3 + PAPER[place:] + [wrong], place)

    def test_a_row_that_is_left_out_or_stands_elsewhere(self):
        for letters, rules, part, size in GROUPS:
            if size <= 12:
                paper = paper_of(letters, rules, part, 40)
                for place in range(len(paper)):
                    rest = paper[:place] + paper[place + 1:]
                    self.assert_judged(letters, rules, part, rest, judged_by_hand(letters, rules, part, rest))
                    turned = rest + [paper[place]]
                    self.assert_judged(letters, rules, part, turned, judged_by_hand(letters, rules, part, turned))

    def test_numbers_that_are_changed(self):
        places = {}
        for seed in range(3000):
            chance = Chance(seed)
            letters, rules, part, size = chance.one_of(GROUPS[:35])
            paper = paper_of(letters, rules, part, 20, chance.one_of(["rooms", "letters", "newest"]))
            if paper:
                place = chance.below(len(paper))
                paper[place] = self.changed(chance, paper[place])
                told = judged_by_hand(letters, rules, part, paper)
                self.assert_judged(letters, rules, part, paper, told)
                places[told is None] = places.get(told is None, 0) + 1
        self.assertGreater(min(places[True], places[False]), 100)

    def changed(self, chance, row):
        other = chance.one_of([0, 1, 2, 3, 4, 5, 6, -1, -2, HUGE])
        if row[0] == "rule" and chance.below(2):
            path = list(row[2])
            path[chance.below(len(path))] = other
            return (row[0], row[1], tuple(path), row[3])
        part = chance.one_of([place for place in range(1, len(row)) if type(row[place]) is int])
        return row[:part] + (other,) + row[part + 1:]


class Bounds(JudgeCase):
    def test_a_paper_of_two_thousand_rows(self):
        paper = [("new", room, 1, room + 1) for room in range(999)] + [("rule", 0, tuple(range(1000)) + (0,), 999)]
        paper = paper + [("rule", 1, (0, 0), 0), ("meet", 0, 1, 0, 1)]
        for room in range(2, 1000):
            paper.append(("meet", 0, 1, 0, room))
        self.assertEqual(len(paper), 2000)
        self.assertIsNone(judged(1, [(1,) * 1000, (1,)], [], paper))
        self.assertEqual(judged(1, [(1,) * 1000, (1,)], [], paper[:-1] + [("new", 0, 1, 1000)]), 1999)
        self.assertEqual(judged(1, [(1,) * 1000], [(1, 1), (1,)], paper), 1000)

    def test_papers_that_were_told(self):
        rules = [(letter,) for letter in range(1, 200)]
        paper = paper_of(200, rules, [], 60)
        self.assertGreater(len(paper), 10000)
        self.assertIsNone(judged(200, rules, [], paper))
        self.assertEqual(judged(200, rules, [], paper + [("new", 0, 1, 60)]), len(paper))
        for letters, rules in [(1, ring(1000)), (2, mirrors(500)), (1, [(1,) * 2000, (1,) * 990]), (3, FOUR_POINTS),
                               (2, FIVE_EVEN)]:
            self.assertIsNone(judged(letters, rules, [], paper_of(letters, rules, [], 1000)))

    def test_a_path_of_two_thousand_and_one_rooms(self):
        rule = (1, -1) * 1000
        paper = [("new", 0, 1, 1), ("rule", 0, (0, 1) * 1000 + (0,), 1999), ("rule", 0, (1, 0) * 1000 + (1,), 0)]
        self.assertEqual(judged(1, [rule], [], paper), 2)
        self.assertEqual(judged(1, [rule], [rule], [paper[0], ("rule", 1, paper[1][2], 7)]), None)
        self.assertEqual(judged(1, [rule], [], [paper[0], ("rule", 0, (0,) * 2001, 7)]), 1)

    def test_four_hundred_rules_and_sixty_words(self):
        rules = [()] * 399 + [(1, 1)]
        part = [()] * 59 + [(1,)]
        self.assertIsNone(judged(1, rules, part, [("new", 0, 1, 1), ("rule", 399, (0, 1, 0), 1),
                                                  ("rule", 459, (0, 0), 0), ("meet", 0, 1, 0, 1)]))
        for which in [398, 400, 458, 460]:
            self.assertEqual(judged(1, rules, part, [("rule", which, (0, 0), 0)]), 0)

    def test_two_hundred_letters(self):
        paper = [("new", 0, step, place) for place, step in enumerate(steps_in_order(200), start=1)]
        self.assertIsNone(judged(200, [], [], paper))
        self.assertEqual(judged(199, [], [], paper), 398)


class NothingElse(JudgeCase):
    def test_asked_again(self):
        paper = PAPER + [("new", 2, 2, 5)]
        self.assertEqual([judged(2, RULES, PART, paper), judged(2, RULES, PART, PAPER), judged(2, RULES, PART, paper)],
                         [7, None, 7])
        paper.pop()
        self.assertIsNone(judged(2, RULES, PART, paper))

    def test_one_list_as_rules_and_part(self):
        words = [(1, 1)]
        self.assertIsNone(judged(1, words, words, [("new", 0, 1, 1), ("rule", 1, (0, 1, 0), 1)]))
        self.assertEqual(words, [(1, 1)])


if __name__ == "__main__":
    unittest.main()
