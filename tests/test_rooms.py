import itertools
import unittest

from cosetyard.rooms import Rooms
from helper import Built, Chance, Walker, known_ways, long_row, state, steps_in_order


class RoomsCase(unittest.TestCase):
    def assert_right(self, built):
        """What a Rooms tells is what the ways come to, and its paper, walked by point 12, tells the same."""
        built.plain.assert_same(self, built.rooms)
        walker = Walker(self, built.rooms.letters, asked=built.asked).walk(built.rooms.paper())
        walker.assert_same(built.rooms)
        self.assertEqual(walker.counts["new"], built.rooms.made - 1)
        self.assertEqual(walker.counts["meet"], built.rooms.made - len(built.rooms.standing()))


class AtTheBeginning(RoomsCase):
    def test_room_nought_alone(self):
        for letters in [1, 2, 200]:
            rooms = Rooms(letters)
            self.assertEqual(rooms.letters, letters)
            self.assertEqual(rooms.made, 1)
            self.assertEqual(rooms.standing(), [0])
            self.assertEqual(rooms.elder(0), 0)
            self.assertEqual(rooms.paper(), [])
            for step in steps_in_order(letters):
                self.assertIsNone(rooms.by(0, step))

    def test_kinds(self):
        rooms = long_row(3)
        self.assertIs(type(rooms.standing()), list)
        self.assertIs(type(rooms.paper()), list)
        for row in rooms.paper():
            self.assertIs(type(row), tuple)
        for number in [rooms.letters, rooms.made, rooms.elder(2), rooms.by(0, 1)] + rooms.standing():
            self.assertIs(type(number), int)


class Make(RoomsCase):
    def test_the_next_number(self):
        rooms = Rooms(2)
        self.assertEqual(rooms.make(0, 1), 1)
        self.assertEqual(rooms.make(0, -1), 2)
        self.assertEqual(rooms.make(1, -2), 3)
        self.assertEqual(rooms.make(3, -2), 4)
        self.assertEqual(rooms.made, 5)
        self.assertEqual(rooms.standing(), [0, 1, 2, 3, 4])
        self.assertEqual(rooms.paper(), [("new", 0, 1, 1), ("new", 0, -1, 2), ("new", 1, -2, 3), ("new", 3, -2, 4)])

    def test_the_way_and_its_back_are_known_at_once(self):
        for step in [1, -1, 2, -2]:
            rooms = Rooms(2)
            rooms.make(0, step)
            self.assertEqual(known_ways(rooms), {(0, step): 1, (1, -step): 0})

    def test_rooms_gone_count(self):
        rooms = long_row(3)
        rooms.lay(0, 1, 0, ())
        self.assertEqual(rooms.standing(), [0])
        self.assertEqual(rooms.made, 3)
        rooms = long_row(3, 2)
        rooms.lay(0, 1, 0, ())
        self.assertEqual(rooms.make(0, 2), 3)
        self.assertEqual(rooms.made, 4)
        self.assertEqual(rooms.standing(), [0, 3])
        self.assertEqual(rooms.paper()[-1], ("new", 0, 2, 3))

    def test_two_hundred_letters(self):
        built = Built(200)
        for step in steps_in_order(200):
            built.rooms.make(0, step)
        self.assertEqual(built.rooms.made, 401)
        for place, step in enumerate(steps_in_order(200)):
            self.assertEqual(built.rooms.by(0, step), place + 1)
            self.assertEqual(built.rooms.by(place + 1, -step), 0)
        Walker(self, 200).walk(built.rooms.paper()).assert_same(built.rooms)


class Lay(RoomsCase):
    def test_gives_nothing_back(self):
        rooms = Rooms(1)
        self.assertIsNone(rooms.lay(0, 1, 0, ("mine",)))
        self.assertIsNone(rooms.lay(0, 1, 0, ("mine",)))

    def test_the_way_and_its_back(self):
        rooms = long_row(3)
        rooms.lay(2, 1, 0, ("mine", 7))
        self.assertEqual(known_ways(rooms), {(0, 1): 1, (1, 1): 2, (2, 1): 0, (0, -1): 2, (1, -1): 0, (2, -1): 1})
        self.assertEqual(rooms.paper(), [("new", 0, 1, 1), ("new", 1, 1, 2), ("mine", 7)])
        self.assertEqual(rooms.standing(), [0, 1, 2])

    def test_by_a_back(self):
        rooms = long_row(3)
        rooms.lay(0, -1, 2, ("mine", 7))
        self.assertEqual((rooms.by(0, -1), rooms.by(2, 1)), (2, 0))

    def test_from_a_room_to_itself(self):
        for step in [2, -2]:
            rooms = long_row(2, 2)
            rooms.lay(1, step, 1, ())
            self.assertEqual(known_ways(rooms), {(0, 1): 1, (1, -1): 0, (1, 2): 1, (1, -2): 1})

    def test_a_way_that_is_known(self):
        for way in [(0, 1, 1), (1, -1, 0)]:
            rooms = long_row(3)
            before = known_ways(rooms)
            rooms.lay(*way, ("again",))
            rooms.lay(*way, ("again",))
            self.assertEqual(known_ways(rooms), before)
            self.assertEqual(rooms.standing(), [0, 1, 2])
            self.assertEqual(rooms.paper(), [("new", 0, 1, 1), ("new", 1, 1, 2), ("again",), ("again",)])

    def test_any_row_is_written_as_it_is(self):
        rows = [(), ("new", 0, 1, 1), ("meet", 0, 1, 0, 1), ("rule", 0, (0, 0), 0), (None, -1, "text", ((), (1,))),
                ("list", [1, [2]], {"key": [3]}), (True, 0)]
        rooms = Rooms(1)
        for row in rows:
            rooms.lay(0, 1, 0, row)
        self.assertEqual(rooms.paper(), rows)
        self.assertEqual([type(part) for part in rooms.paper()[-1]], [bool, int])

    def test_the_row_stands_ahead_of_what_comes_of_it(self):
        rooms = long_row(2)
        rooms.lay(0, 1, 0, ("mine",))
        self.assertEqual(rooms.paper(), [("new", 0, 1, 1), ("mine",), ("meet", 0, 1, 0, 1)])


class PutTogether(RoomsCase):
    def test_two_rooms_by_one_step(self):
        built = Built(2)
        built.make(0, 1)
        built.make(0, 2)
        built.make(2, 2)
        self.assertIsNone(built.lay(0, 1, 2))
        self.assertEqual(built.rooms.standing(), [0, 1, 3])
        self.assertEqual(known_ways(built.rooms), {(0, 1): 1, (0, 2): 1, (1, -1): 0, (1, -2): 0, (1, 2): 3, (3, -2): 1})
        self.assertEqual([built.rooms.elder(room) for room in range(4)], [0, 1, 1, 3])
        self.assert_right(built)

    def test_the_greater_goes_whichever_was_known(self):
        for known, laid in [(1, 2), (2, 1)]:
            built = Built(3)
            built.make(0, 1)
            built.make(0, 3)
            built.lay(0, 2, known)
            built.lay(0, 2, laid)
            self.assertEqual(built.rooms.standing(), [0, 1])
            self.assertEqual(built.rooms.elder(2), 1)
            self.assert_right(built)

    def test_by_the_back(self):
        built = Built(2)
        built.make(0, 1)
        built.make(0, 2)
        built.lay(2, 1, 1)
        self.assertEqual(built.rooms.standing(), [0, 1])
        self.assertEqual(known_ways(built.rooms), {(0, 1): 1, (1, -1): 0, (0, 2): 0, (0, -2): 0})
        self.assertEqual(built.rooms.paper()[-1], ("meet", 1, -1, 0, 2))
        self.assert_right(built)

    def test_by_the_way_and_by_its_back(self):
        built = Built(2)
        for room, step in [(0, 1), (0, 2), (2, 1), (0, -2)]:
            built.make(room, step)
        built.lay(0, 1, 3)
        self.assertEqual(built.rooms.standing(), [0, 1])
        self.assertEqual([built.rooms.elder(room) for room in range(5)], [0, 1, 0, 1, 0])
        self.assert_right(built)

    def test_two_rows_side_by_side(self):
        for size in [1, 2, 30]:
            built = Built(3)
            for step in [1, 2]:
                room = built.make(0, step)
                for place in range(size):
                    room = built.make(room, 3)
            built.lay(0, 1, size + 2)
            self.assertEqual(built.rooms.standing(), list(range(size + 2)))
            self.assertEqual([built.rooms.elder(room) for room in range(size + 2, 2 * size + 3)],
                             list(range(1, size + 2)))
            self.assert_right(built)

    def test_a_way_from_a_room_to_itself(self):
        for way in [(0, 1, 0), (0, -1, 0), (3, 1, 3), (1, -1, 1)]:
            built = Built(2)
            for room in range(4):
                built.make(room, 1)
            built.make(4, 2)
            built.lay(*way)
            self.assertEqual(built.rooms.standing(), [0, 5])
            self.assertEqual([built.rooms.elder(room) for room in range(6)], [0, 0, 0, 0, 0, 5])
            self.assertEqual(known_ways(built.rooms), {(0, 1): 0, (0, -1): 0, (0, 2): 5, (5, -2): 0})
            self.assert_right(built)

    def test_a_room_with_a_way_to_itself_goes(self):
        built = Built(3)
        built.make(0, 1)
        built.lay(1, 2, 1)
        built.make(1, 3)
        built.lay(0, 1, 0)
        self.assertEqual(known_ways(built.rooms), {(0, 1): 0, (0, -1): 0, (0, 2): 0, (0, -2): 0, (0, 3): 2, (2, -3): 0})
        self.assert_right(built)

    def test_a_letter_whose_way_and_back_meet(self):
        built = Built(1)
        built.make(0, 1)
        built.make(0, -1)
        built.lay(1, 1, 0)
        self.assertEqual(built.rooms.standing(), [0, 1])
        self.assertEqual(known_ways(built.rooms), {(0, 1): 1, (0, -1): 1, (1, 1): 0, (1, -1): 0})
        self.assert_right(built)
        built.lay(0, -1, 0)
        self.assertEqual(built.rooms.standing(), [0])
        self.assert_right(built)

    def test_gone_several_times_over(self):
        built = Built(4)
        for letter in [1, 2, 3, 4]:
            built.make(0, letter)
        for elders, way in [([0, 1, 2, 3, 3], (0, 4, 3)), ([0, 1, 2, 2, 2], (0, 3, 2)), ([0, 1, 1, 1, 1], (0, 2, 1)),
                            ([0, 0, 0, 0, 0], (0, 1, 0))]:
            built.lay(*way)
            self.assertEqual([built.rooms.elder(room) for room in range(5)], elders)
            self.assertEqual(built.rooms.standing(), sorted(set(elders)))
            self.assert_right(built)

    def test_each_way_laid_in_each_small_tree(self):
        steps = steps_in_order(2)
        for shape in itertools.product(itertools.product(range(3), steps), repeat=3):
            if any(room > place for place, (room, step) in enumerate(shape)):
                continue
            for way in itertools.product([0, 2, 3], [1, -2], [0, 1, 3]):
                built = Built(2)
                if all((room, step) in built.gaps() and built.make(room, step) for room, step in shape):
                    built.lay(*way)
                    self.assert_right(built)

    def test_many_deeds(self):
        for seed in range(400):
            chance = Chance(seed)
            built = Built(1 + seed % 4)
            for deed in range(1 + seed % 12):
                built.grow(chance, 3, 10 + seed % 40)
                built.plain.assert_same(self, built.rooms)
            self.assert_right(built)

    def test_room_nought_stands(self):
        for seed in range(50):
            built = Built(2).grow(Chance(seed + 1000), 20, 50)
            self.assertEqual(built.rooms.standing()[0], 0)
            self.assertEqual(built.rooms.elder(0), 0)


class Bounds(RoomsCase):
    def test_one_long_row_put_together_to_one_room(self):
        for way in [(0, 1, 0), (999, 1, 999), (500, -1, 500), (1, 1, 0), (998, -1, 999)]:
            rooms = long_row(1000)
            self.assertEqual(rooms.made, 1000)
            self.assertEqual(rooms.standing(), list(range(1000)))
            rooms.lay(*way, ("mine",))
            walker = Walker(self, 1, asked=[(("mine",), way)]).walk(rooms.paper())
            walker.assert_same(rooms)
            left = 1 if way[0] == way[2] else 2
            self.assertEqual(len(rooms.standing()), left)
            self.assertEqual(walker.counts["meet"], 1000 - left)

    def test_a_thousand_rooms_folded(self):
        rooms = Rooms(2)
        for place in range(999):
            rooms.make(place, 1 if place % 2 else 2)
        rooms.lay(999, 2, 998, ("mine",))
        Walker(self, 2, asked=[(("mine",), (999, 2, 998))]).walk(rooms.paper()).assert_same(rooms)

    def test_two_hundred_letters(self):
        built = Built(200)
        one = built.rooms.make(0, 1)
        other = built.rooms.make(0, -1)
        for step in steps_in_order(200)[2:]:
            built.rooms.make(one, step)
        for step in steps_in_order(200)[2:]:
            built.rooms.make(other, step)
        self.assertEqual(built.rooms.made, 799)
        built.rooms.lay(0, 1, other, ("mine",))
        self.assertEqual(built.rooms.standing(), [0, 1] + list(range(3, 401)))
        for place, step in enumerate(steps_in_order(200)[2:]):
            self.assertEqual(built.rooms.by(1, step), place + 3)
            self.assertEqual(built.rooms.by(place + 3, -step), 1)
            self.assertEqual(built.rooms.elder(place + 401), place + 3)
        self.assertEqual(built.rooms.elder(2), 1)
        self.assertEqual([built.rooms.by(0, 1), built.rooms.by(0, -1)], [1, 1])
        Walker(self, 200, asked=[(("mine",), (0, 1, other))]).walk(built.rooms.paper()).assert_same(built.rooms)

    def test_a_thousand_rooms_of_two_hundred_letters(self):
        rooms = long_row(1000, 200)
        for letter in range(2, 201):
            rooms.lay(999, letter, 0, (letter,))
        rooms.lay(0, 1, 0, ("mine",))
        self.assertEqual(rooms.standing(), [0])
        self.assertEqual(known_ways(rooms), {(0, step): 0 for step in steps_in_order(200)})
        self.assertEqual({rooms.elder(room) for room in range(1000)}, {0})


class AskersOwn(RoomsCase):
    def test_lists_told_and_changed_come_again_whole(self):
        rooms = long_row(3)
        for ask in [rooms.standing, rooms.paper]:
            told = ask()
            whole = list(told)
            told.clear()
            self.assertEqual(ask(), whole)
            ask().append(7)
            ask()[0] = 7
            self.assertEqual(ask(), whole)
        self.assertEqual(rooms.make(2, 1), 3)
        self.assertEqual(rooms.paper(), [("new", 0, 1, 1), ("new", 1, 1, 2), ("new", 2, 1, 3)])

    def test_lists_told_stay_when_more_is_done(self):
        rooms = long_row(3)
        standing = rooms.standing()
        paper = rooms.paper()
        rooms.make(2, 1)
        rooms.lay(0, 1, 0, ("mine",))
        self.assertEqual(standing, [0, 1, 2])
        self.assertEqual(paper, [("new", 0, 1, 1), ("new", 1, 1, 2)])

    def test_a_list_within_a_row(self):
        rooms = Rooms(1)
        row = ("mine", [1, [2]], {"key": [3]}, ([4],))
        rooms.lay(0, 1, 0, row)
        for changed in [row, rooms.paper()[0]]:
            changed[1][1].append(9)
            changed[1].append(9)
            changed[2]["key"].append(9)
            changed[2]["more"] = 9
            changed[3][0].append(9)
            self.assertEqual(rooms.paper(), [("mine", [1, [2]], {"key": [3]}, ([4],))])

    def test_two_rooms_have_nothing_in_common(self):
        one = Rooms(2)
        other = Rooms(2)
        one.make(0, 1)
        one.make(0, 2)
        one.lay(0, 1, 2, ("mine",))
        self.assertEqual(state(other), state(Rooms(2)))
        other.make(0, -2)
        self.assertEqual(known_ways(one), {(0, 1): 1, (0, 2): 1, (1, -1): 0, (1, -2): 0})
        self.assertEqual((one.made, other.made), (3, 2))

    def test_asking_changes_nothing(self):
        built = Built(2).grow(Chance(5), 20, 20)
        before = state(built.rooms)
        self.assertEqual(state(built.rooms), before)


if __name__ == "__main__":
    unittest.main()
