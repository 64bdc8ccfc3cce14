import itertools
import unittest

from cosetyard.words import back, filled_in, raised, steps_of, thinned

STEPS = (1, -1, 2, -2)


def short_words(most):
    for size in range(most + 1):
        yield from itertools.product(STEPS, repeat=size)


def thinned_by_hand(word, last_first):
    """Takes out one pair at a time, the first or the last there is, until there is none."""
    while True:
        places = [k for k in range(len(word) - 1) if word[k] == -word[k + 1]]
        if not places:
            return word
        k = places[-1] if last_first else places[0]
        word = word[:k] + word[k + 2:]


class WordCase(unittest.TestCase):
    def assert_word(self, told, word):
        self.assertIs(type(told), tuple)
        for step in told:
            self.assertIs(type(step), int)
        self.assertEqual(told, word)


class StepsOf(unittest.TestCase):
    def test_order(self):
        self.assertEqual(steps_of(1), [1, -1])
        self.assertEqual(steps_of(2), [1, -1, 2, -2])
        self.assertEqual(steps_of(3), [1, -1, 2, -2, 3, -3])
        self.assertIs(type(steps_of(3)), list)

    def test_two_hundred_letters(self):
        steps = steps_of(200)
        self.assertEqual(len(steps), 400)
        self.assertEqual(steps[0::2], list(range(1, 201)))
        self.assertEqual(steps[1::2], [-k for k in range(1, 201)])

    def test_what_is_told_is_the_askers_own(self):
        first = steps_of(3)
        second = steps_of(3)
        first.clear()
        self.assertEqual(second, [1, -1, 2, -2, 3, -3])
        self.assertEqual(steps_of(3), [1, -1, 2, -2, 3, -3])


class Back(WordCase):
    def test_back(self):
        self.assert_word(back(()), ())
        self.assert_word(back((3,)), (-3,))
        self.assert_word(back((-3,)), (3,))
        self.assert_word(back((1, 2, 3)), (-3, -2, -1))
        self.assert_word(back((1, -2, -2, 3)), (-3, 2, 2, -1))

    def test_nothing_is_thinned(self):
        self.assert_word(back((1, -1)), (1, -1))
        self.assert_word(back((2, 1, -1)), (1, -1, -2))

    def test_back_of_the_back(self):
        for word in short_words(4):
            self.assert_word(back(back(word)), word)

    def test_long_word_of_many_letters(self):
        word = tuple(steps_of(200)) * 5
        self.assertEqual(len(word), 2000)
        self.assert_word(back(word), tuple(-word[1999 - k] for k in range(2000)))
        self.assert_word(back(back(word)), word)


class Thinned(WordCase):
    def test_nothing_to_take_out(self):
        for word in [(), (1,), (-200,), (1, 1), (1, 2, 1), (1, 2, -1, -2), (1, 2, -1)]:
            self.assert_word(thinned(word), word)

    def test_one_pair(self):
        self.assert_word(thinned((1, -1)), ())
        self.assert_word(thinned((-1, 1)), ())
        self.assert_word(thinned((2, -1, 1, 3)), (2, 3))
        self.assert_word(thinned((1, 1, -1)), (1,))
        self.assert_word(thinned((2, -2, 1)), (1,))

    def test_one_pair_behind_the_other(self):
        self.assert_word(thinned((1, 2, -2, -1)), ())
        self.assert_word(thinned((3, 1, 2, -2, -1, 3)), (3, 3))
        self.assert_word(thinned((1, 2, 3, -3, 2, -2, -2, 1)), (1, 1))
        self.assert_word(thinned((1, 2, 3, -3, -2, 4, -4, -1, 5)), (5,))

    def test_two_thousand_steps_down_to_nothing(self):
        half = tuple((1, 2, -3, 2)[k % 4] for k in range(1000))
        self.assert_word(thinned(half + back(half)), ())
        self.assert_word(thinned((1,) * 1000 + (-1,) * 1000), ())
        self.assert_word(thinned((1,) * 1000 + (-1,) * 999), (1,))

    def test_two_thousand_steps_that_stay(self):
        self.assert_word(thinned((1, 2) * 1000), (1, 2) * 1000)

    def test_two_hundred_letters(self):
        self.assert_word(thinned(tuple(steps_of(200))), ())
        self.assert_word(thinned(tuple(range(1, 201)) + (-200, -199)), tuple(range(1, 199)))

    def test_all_short_words(self):
        for word in short_words(6):
            left = thinned(word)
            self.assertEqual(left, thinned_by_hand(word, False))
            self.assertEqual(left, thinned_by_hand(word, True))

    def test_thinned_again(self):
        for word in short_words(5):
            self.assert_word(thinned(thinned(word)), thinned(word))

    def test_a_word_with_its_back_behind_it(self):
        for word in short_words(5):
            self.assert_word(thinned(word + back(word)), ())
            self.assert_word(thinned(back(word) + word), ())


class Raised(WordCase):
    def test_powers(self):
        self.assert_word(raised((1, 2), 1), (1, 2))
        self.assert_word(raised((1, 2), 2), (1, 2, 1, 2))
        self.assert_word(raised((1, -2, 3), 3), (1, -2, 3, 1, -2, 3, 1, -2, 3))

    def test_nought(self):
        self.assert_word(raised((1, 2), 0), ())
        self.assert_word(raised((-5,), 0), ())

    def test_below_nought(self):
        self.assert_word(raised((1, 2), -1), (-2, -1))
        self.assert_word(raised((1, -2), -2), (2, -1, 2, -1))
        self.assert_word(raised((-3,), -3), (3, 3, 3))

    def test_nothing_is_thinned(self):
        self.assert_word(raised((1, -1), 1), (1, -1))
        self.assert_word(raised((1, -1), 2), (1, -1, 1, -1))
        self.assert_word(raised((1, 2, -1), 2), (1, 2, -1, 1, 2, -1))
        self.assert_word(raised((1, 2, -1), -2), (1, -2, -1, 1, -2, -1))

    def test_the_empty_word(self):
        for power in (0, 1, -1, 2, 200, -200):
            self.assert_word(raised((), power), ())

    def test_to_twenty_thousand_steps(self):
        word = tuple(k % 7 + 1 for k in range(100))
        self.assert_word(raised(word, 200), word * 200)
        self.assert_word(raised(word, -200), back(word) * 200)
        self.assert_word(raised((1,), 200), (1,) * 200)
        self.assert_word(raised((1,), -200), (-1,) * 200)
        self.assert_word(raised((1, 2) * 1000, 10), (1, 2) * 10000)


class FilledIn(WordCase):
    def test_steps_forth_and_back(self):
        images = [(4,), (5, 6), (-7, 8, 8)]
        self.assert_word(filled_in((1,), images), (4,))
        self.assert_word(filled_in((-1,), images), (-4,))
        self.assert_word(filled_in((3,), images), (-7, 8, 8))
        self.assert_word(filled_in((-3,), images), (-8, -8, 7))
        self.assert_word(filled_in((2, -3, 1, -2), images), (5, 6, -8, -8, 7, 4, -6, -5))

    def test_nothing_is_thinned(self):
        self.assert_word(filled_in((1, -1), [(2, 3)]), (2, 3, -3, -2))
        self.assert_word(filled_in((1, 2), [(1,), (-1,)]), (1, -1))
        self.assert_word(filled_in((1,), [(1, -1)]), (1, -1))
        self.assert_word(filled_in((-1,), [(1, -1, 2)]), (-2, 1, -1))

    def test_empty_word_and_empty_images(self):
        self.assert_word(filled_in((), [(1, 2)]), ())
        self.assert_word(filled_in((1, -1, 1), [()]), ())
        self.assert_word(filled_in((2, 1, -2, -1), [(), (3,)]), (3, -3))

    def test_a_word_filled_in_by_its_own_letters(self):
        images = [(1,), (2,)]
        for word in short_words(4):
            self.assert_word(filled_in(word, images), word)

    def test_two_hundred_letters(self):
        images = [(201 - k,) for k in range(1, 201)]
        self.assert_word(filled_in((1, 200, -1, -200), images), (200, 1, -200, -1))

    def test_to_twenty_thousand_steps(self):
        self.assert_word(filled_in((1, -2) * 1000, [(1, 2) * 5, (3, 4) * 5]), ((1, 2) * 5 + (-4, -3) * 5) * 1000)
        self.assert_word(filled_in((-1,) * 10, [(1, 2) * 1000]), (-2, -1) * 10000)


class NothingIsChanged(unittest.TestCase):
    def test_images_stay(self):
        images = [(1, 2), (), (-3,)]
        for word in [(1,), (-1,), (3, -1, 2, -3), ()]:
            filled_in(word, images)
            self.assertEqual(images, [(1, 2), (), (-3,)])

    def test_words_stay(self):
        word = (1, 2, -2, 3)
        back(word)
        thinned(word)
        raised(word, 2)
        raised(word, -2)
        filled_in(word, [(1,), (2,), (3,)])
        self.assertEqual(word, (1, 2, -2, 3))

    def test_the_same_is_told_again(self):
        images = [(1, 2)]
        self.assertEqual(filled_in((1,), images), (1, 2))
        images[0] = (3,)
        self.assertEqual(filled_in((1,), images), (3,))


if __name__ == "__main__":
    unittest.main()
