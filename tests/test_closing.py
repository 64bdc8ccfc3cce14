import itertools
import unittest

from cosetyard.closing import close, gone
from cosetyard.rooms import Rooms
from helper import Built, Chance, Walker, known_ways, long_row, some_word, state, steps_in_order


def star(letters):
    """Room 0 with a room behind each of its steps."""
    built = Built(letters)
    for step in steps_in_order(letters):
        built.make(0, step)
    return built


def grown(seed):
    """Rooms, rules and a part without order, by each seed others."""
    chance = Chance(seed)
    letters = 1 + seed % 3
    built = Built(letters).grow(chance, 2 + chance.below(14), chance.below(25))
    rules = [some_word(chance, letters, 5) for place in range(chance.below(4))]
    part = [some_word(chance, letters, 4) for place in range(chance.below(3))]
    return built, rules, part


class ClosingCase(unittest.TestCase):
    def assert_closes(self, built, rules, part):
        """Closes, and looks at all that point 15 tells; gives the walker of the paper."""
        ahead = built.rooms.paper()
        made = built.rooms.made
        handed = (list(rules), list(part))
        self.assertIsNone(close(built.rooms, rules, part))
        self.assertEqual((rules, part), handed)
        self.assertEqual(built.rooms.made, made)
        self.assertEqual(built.rooms.paper()[:len(ahead)], ahead)
        built.plain.close(rules, part)
        built.plain.assert_same(self, built.rooms)
        for row in built.rooms.paper()[len(ahead):]:
            self.assertIn(row[0], ["rule", "meet"])
        walker = Walker(self, built.rooms.letters, rules, part, built.asked).walk(built.rooms.paper())
        walker.assert_same(built.rooms)
        self.assert_nothing_more(built.rooms, rules, part)
        return walker

    def assert_nothing_more(self, rooms, rules, part):
        before = state(rooms)[:-1]
        close(rooms, rules, part)
        self.assertEqual(state(rooms)[:-1], before)


class Gone(unittest.TestCase):
    def test_the_empty_word(self):
        rooms = long_row(3)
        for room in range(3):
            self.assertEqual(gone(rooms, room, ()), (0, room))

    def test_to_the_end(self):
        rooms = long_row(3, 2)
        self.assertEqual(gone(rooms, 0, (1,)), (1, 1))
        self.assertEqual(gone(rooms, 0, (1, 1)), (2, 2))
        self.assertEqual(gone(rooms, 2, (-1, -1, 1)), (3, 1))
        rooms.lay(2, 1, 0, ())
        self.assertEqual(gone(rooms, 1, (1,) * 2000), (2000, 0))
        self.assertEqual(gone(rooms, 1, (-1,) * 2000), (2000, 2))

    def test_stopped_at_the_first_step(self):
        rooms = long_row(3, 2)
        self.assertEqual(gone(rooms, 0, (2,)), (0, 0))
        self.assertEqual(gone(rooms, 0, (-1, 1)), (0, 0))
        self.assertEqual(gone(rooms, 2, (1, -1, 1)), (0, 2))

    def test_stopped_in_the_midst(self):
        rooms = long_row(3, 2)
        self.assertEqual(gone(rooms, 0, (1, 2, 1)), (1, 1))
        self.assertEqual(gone(rooms, 0, (1, 1, 1, -1)), (2, 2))
        self.assertEqual(gone(rooms, 1, (-1, -2, 1)), (1, 0))
        self.assertEqual(gone(long_row(1000), 0, (1,) * 2000), (999, 999))

    def test_stopped_at_the_last_step(self):
        self.assertEqual(gone(long_row(3), 0, (1, 1, 1)), (2, 2))

    def test_among_rooms_gone(self):
        rooms = Rooms(2)
        for step in [1, 2, -1]:
            rooms.make(0, step)
        rooms.lay(0, 1, 2, ())
        self.assertEqual(gone(rooms, 0, (2, -1, -1)), (3, 3))

    def test_a_tuple_of_whole_numbers(self):
        told = gone(long_row(3), 0, (1, 1))
        self.assertIs(type(told), tuple)
        self.assertEqual([type(number) for number in told], [int, int])

    def test_nothing_is_changed(self):
        rooms = long_row(3, 2)
        before = state(rooms)
        word = (1, 1, 2, 1)
        gone(rooms, 0, word)
        self.assertEqual(state(rooms), before)
        self.assertEqual(word, (1, 1, 2, 1))


class Close(ClosingCase):
    def test_without_rules(self):
        walker = self.assert_closes(star(2), [], [])
        self.assertEqual((walker.counts["rule"], walker.counts["meet"]), (0, 0))

    def test_of_empty_words_nothing_follows(self):
        for rules, part in [([()], []), ([], [()]), ([(), ()], [(), ()])]:
            built = star(1)
            before = state(built.rooms)
            self.assert_closes(built, rules, part)
            self.assertEqual(state(built.rooms), before)

    def test_empty_words_among_others(self):
        built = Built(2)
        built.make(0, 1)
        built.make(0, 2)
        walker = self.assert_closes(built, [(), (1, 1), ()], [(), (2,), ()])
        self.assertEqual(built.rooms.standing(), [0, 1])
        self.assertEqual({row[1] for row in built.rooms.paper() if row[0] == "rule"}, {1, 4})
        self.assertEqual(walker.counts["meet"], 1)

    def test_one_step_between(self):
        built = Built(1)
        built.make(0, 1)
        built.make(1, 1)
        self.assert_closes(built, [(1, 1, 1)], [])
        self.assertEqual(built.rooms.by(2, 1), 0)

    def test_two_steps_between(self):
        built = Built(1)
        built.make(0, 1)
        before = state(built.rooms)
        self.assert_closes(built, [(1, 1, 1)], [])
        self.assertEqual(state(built.rooms), before)

    def test_nothing_between(self):
        built = Built(1)
        for room in range(3):
            built.make(room, 1)
        self.assert_closes(built, [(1, 1, 1)], [])
        self.assertEqual(built.rooms.standing(), [0, 1, 2])
        self.assertEqual(built.rooms.elder(3), 0)

    def test_ways_known_from_both_ends_and_more(self):
        built = Built(3)
        room = built.make(0, 1)
        built.make(0, -3)
        built.make(2, -2)
        built.make(3, -1)
        self.assert_closes(built, [(1, 2, 3)], [])
        self.assertEqual([built.rooms.elder(number) for number in range(5)], [0, room, 2, 1, 0])

    def test_the_rules_from_each_standing_room(self):
        built = Built(2)
        for room in range(3):
            built.make(room, 2)
        self.assert_closes(built, [(1,)], [])
        for room in range(4):
            self.assertEqual((built.rooms.by(room, 1), built.rooms.by(room, -1)), (room, room))

    def test_the_part_from_room_nought_alone(self):
        built = Built(2)
        for room in range(3):
            built.make(room, 2)
        walker = self.assert_closes(built, [], [(1,)])
        self.assertEqual(known_ways(built.rooms), {(0, 1): 0, (0, -1): 0, (0, 2): 1, (1, 2): 2, (2, 2): 3, (1, -2): 0,
                                                   (2, -2): 1, (3, -2): 2})
        self.assertEqual(built.rooms.paper()[3:], [("rule", 0, (0, 0), 0)])
        self.assertEqual(walker.counts["rule"], 1)

    def test_a_rule_of_one_step(self):
        for step in [1, -1]:
            built = star(1)
            self.assert_closes(built, [(step,)], [])
            self.assertEqual(built.rooms.standing(), [0])
            self.assertEqual(known_ways(built.rooms), {(0, 1): 0, (0, -1): 0})

    def test_a_step_beside_its_back(self):
        for rule in [(1, -1), (-1, 1)]:
            built = star(1)
            before = state(built.rooms)[:-1]
            self.assert_closes(built, [rule], [])
            self.assertEqual(state(built.rooms)[:-1], before)

    def test_a_step_beside_its_back_in_a_longer_rule(self):
        for rule in [(1, -1, 2), (2, 1, -1), (1, 2, -1), (2, 1, -1, 2), (1, -1, 1, -1), (2, -1, 1, 1, -1, 1)]:
            for deeds in range(1, 12):
                self.assert_closes(Built(2).grow(Chance(deeds), deeds, 0), [rule], [])

    def test_rooms_go(self):
        built = star(2)
        built.make(1, 1)
        built.make(1, 2)
        self.assert_closes(built, [(1, 1, 1), (2, 2), (1, -2)], [])
        self.assertLess(len(built.rooms.standing()), built.rooms.made)

    def test_what_follows_behind_rooms_put_together(self):
        built = Built(3)
        for room, step in [(0, 1), (0, 2), (1, 3), (2, 3), (3, 1), (4, 2)]:
            built.make(room, step)
        self.assert_closes(built, [(1, -2), (3, 1, 3), (3, 2, 2)], [(1, 3)])

    def test_a_group_of_six(self):
        built = Built(2)
        for room, step in [(0, 1), (1, 1), (0, 2), (1, 2), (2, 2)]:
            built.make(room, step)
        self.assert_closes(built, [(1, 1, 1), (2, 2), (1, 2, 1, 2)], [])
        self.assertEqual(built.rooms.standing(), [0, 1, 2, 3, 4, 5])
        self.assertEqual(len(known_ways(built.rooms)), 24)

    def test_rules_then_part_are_told_by_their_places(self):
        built = Built(2)
        self.assert_closes(built, [(1,)], [(2,)])
        self.assertEqual(sorted(built.rooms.paper()), [("rule", 0, (0, 0), 0), ("rule", 1, (0, 0), 0)])

    def test_all_words_of_two_letters_to_three_steps(self):
        words = [word for size in range(4) for word in itertools.product(steps_in_order(2), repeat=size)]
        for word in words:
            for rules, part in [([word], []), ([], [word]), ([(1, 2, -1)], [word]), ([word, (1, 1)], [(2,)])]:
                built = star(2)
                built.make(1, 2)
                self.assert_closes(built, rules, part)

    def test_many_rooms_and_rules(self):
        for seed in range(700):
            self.assert_closes(*grown(seed))

    def test_closed_and_then_gone_on_with(self):
        for seed in range(100):
            built, rules, part = grown(seed)
            chance = Chance(seed)
            for time in range(4):
                close(built.rooms, rules, part)
                built.plain.close(rules, part)
                gaps = built.gaps()
                if gaps:
                    built.make(*chance.one_of(gaps))
            self.assert_closes(built, rules, part)

    def test_closed_by_other_rules_behind(self):
        for seed in range(100):
            built, rules, part = grown(seed)
            close(built.rooms, rules, [])
            built.plain.close(rules, [])
            close(built.rooms, [], part)
            built.plain.close([], part)
            built.plain.assert_same(self, built.rooms)

    def test_the_order_of_the_rules(self):
        for seed in range(60):
            known = []
            rules, part = grown(seed)[1:]
            for order in itertools.permutations(rules):
                for behind in itertools.permutations(part):
                    built = grown(seed)[0]
                    close(built.rooms, list(order), list(behind))
                    known.append(state(built.rooms)[:-1])
            self.assertEqual(known, known[:1] * len(known))


class Bounds(ClosingCase):
    def assert_walks(self, rooms, rules, part, ways=()):
        close(rooms, rules, part)
        Walker(self, rooms.letters, rules, part, ways).walk(rooms.paper()).assert_same(rooms)

    def test_a_rule_of_two_thousand_steps(self):
        rooms = long_row(1000)
        before = state(rooms)
        close(rooms, [(1,) * 2000], [])
        self.assertEqual(state(rooms), before)
        rooms.lay(999, 1, 0, ("mine",))
        close(rooms, [(1,) * 2000], [(-1,) * 2000])
        self.assertEqual(rooms.standing(), list(range(1000)))
        close(rooms, [], [(1,) * 1999])
        self.assertEqual(rooms.standing(), [0])

    def test_a_ring_of_a_thousand_rooms(self):
        rooms = long_row(1000)
        self.assert_walks(rooms, [(1,) * 1000], [])
        self.assertEqual(rooms.standing(), list(range(1000)))
        self.assertEqual((rooms.by(999, 1), rooms.by(0, -1)), (0, 999))

    def test_a_thousand_rooms_go_to_few(self):
        for rules, left in [([(1,) * 999, (1,) * 996], 3), ([(1,) * 998, (1,) * 997], 1), ([(-1,) * 40], 40)]:
            rooms = long_row(1000)
            self.assert_walks(rooms, rules, [])
            self.assertEqual(rooms.standing(), list(range(left)))

    def test_a_long_rule_through_many_letters(self):
        rooms = Rooms(200)
        word = tuple(range(1, 201)) * 5
        room = 0
        for step in word[:-1]:
            room = rooms.make(room, step)
        self.assert_walks(rooms, [word * 2], [word])
        self.assertEqual(rooms.by(999, 200), 0)
        self.assertEqual(len(rooms.standing()), 1000)

    def test_four_hundred_rules(self):
        rules = [(letter, letter + 1, -letter, -letter - 1) for letter in range(1, 200)]
        rules = rules + [(letter, letter) for letter in range(1, 201)] + [(1, 200, -1)]
        self.assertEqual(len(rules), 400)
        rooms = Rooms(200)
        for step in range(1, 201):
            rooms.make(0, step)
        self.assert_walks(rooms, rules, [])
        self.assertEqual(rooms.standing(), list(range(200)))
        for step in range(1, 200):
            self.assertEqual((rooms.by(step, step), rooms.by(0, -step)), (0, step))
        self.assertEqual((rooms.by(0, 200), rooms.by(1, 200), rooms.by(2, 200)), (0, 1, None))

    def test_sixty_words_of_a_part(self):
        part = [(60, letter, letter) for letter in range(1, 60)] + [(60,)]
        rooms = Rooms(60)
        for step in range(1, 60):
            rooms.make(0, step)
        self.assert_walks(rooms, [], part)
        self.assertEqual(rooms.standing(), list(range(60)))
        for step in range(1, 60):
            self.assertEqual(rooms.by(step, step), 0)

    def test_four_hundred_rules_and_sixty_words_and_many_rooms(self):
        rules = [(1,) * (2 * number) for number in range(100, 500)]
        part = [(1,) * (20 * number) for number in range(10, 70)]
        rooms = long_row(300)
        self.assert_walks(rooms, rules, part)
        self.assertEqual(rooms.standing(), [0, 1])


class NothingElse(ClosingCase):
    def test_rules_and_part_stay(self):
        rules = [(1, 1, 1), (), (2, 2)]
        part = [(1,), ()]
        close(star(2).rooms, rules, part)
        self.assertEqual((rules, part), ([(1, 1, 1), (), (2, 2)], [(1,), ()]))

    def test_a_list_may_be_changed_behind(self):
        rules = [(1, 1)]
        built = star(1)
        close(built.rooms, rules, [])
        paper = built.rooms.paper()
        known = known_ways(built.rooms)
        rules.append((1,))
        rules[0] = (1,)
        self.assertEqual((built.rooms.paper(), known_ways(built.rooms)), (paper, known))

    def test_other_rooms_stay(self):
        one = star(2).rooms
        other = star(2).rooms
        before = state(other)
        close(one, [(1,), (2,)], [])
        self.assertEqual(state(other), before)

    def test_what_was_told_stays(self):
        rooms = star(2).rooms
        standing = rooms.standing()
        paper = rooms.paper()
        close(rooms, [(1,), (2,)], [])
        self.assertEqual(standing, [0, 1, 2, 3, 4])
        self.assertEqual(len(paper), 4)


if __name__ == "__main__":
    unittest.main()
