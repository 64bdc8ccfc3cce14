import itertools
import unittest

from cosetyard.errors import NoWord, TooLong
from cosetyard.texts import read, read_list, shown, shown_list


class ListCase(unittest.TestCase):
    def assert_reads(self, text, words, names="ab"):
        told = read_list(names, text)
        self.assertIs(type(told), list, text)
        for word in told:
            self.assertIs(type(word), tuple, text)
        self.assertEqual(told, words, text)

    def assert_refused(self, error, text):
        with self.assertRaises(error, msg=text):
            read_list("ab", text)


class ReadList(ListCase):
    def test_words(self):
        self.assert_reads("a", [(1,)])
        self.assert_reads("a,b", [(1,), (2,)])
        self.assert_reads("a^2,(ab)^-1,B", [(1, 1), (-2, -1), (-2,)])
        self.assert_reads("b,a", [(1,), (2,)], "ba")

    def test_twenty_six_names(self):
        names = "qwertyuiopasdfghjklzxcvbnm"
        for number, name in enumerate(names, start=1):
            self.assert_reads(f" {name} ", [(number,)], names)
            self.assert_reads(f"{name.upper()},{name}", [(-number,), (number,)], names)

    def test_the_same_word_again(self):
        self.assert_reads("a,a,1,1,a", [(1,), (1,), (), (), (1,)])

    def test_nothing_is_thinned(self):
        self.assert_reads("aA,(aA)^2", [(1, -1), (1, -1, 1, -1)])

    def test_the_empty_word_is_a_word(self):
        self.assert_reads("1", [()])
        self.assert_reads("1,1", [(), ()])

    def test_blanks_ahead_and_behind(self):
        self.assert_reads(" a", [(1,)])
        self.assert_reads("a ", [(1,)])
        self.assert_reads("  a  ", [(1,)])
        self.assert_reads("a, b", [(1,), (2,)])
        self.assert_reads("a ,b", [(1,), (2,)])
        self.assert_reads("   a^2   ,   bA   ,1 ", [(1, 1), (2, -1), ()])

    def test_the_empty_list(self):
        for text in ["", " ", "  ", " " * 2000]:
            self.assert_reads(text, [])

    def test_a_comma_with_nothing_on_one_side(self):
        for text in [",", " , ", "a,", ",a", "a, ", " ,a", "a,,b", "a, ,b", ",,", "a,b,", "1,", ",1"]:
            self.assert_refused(NoWord, text)

    def test_a_blank_within_a_text(self):
        for text in ["a b", "a^ 2", "a, b b", "( a)", "a ^2,b", "b,a b,a"]:
            self.assert_refused(NoWord, text)

    def test_other_texts_that_are_refused(self):
        for text in ["c", "a,c", "(a,b)", "a;b", "a^01,b", "a,()", "a,b^2^2", "a.b", "a,b)"]:
            self.assert_refused(NoWord, text)
        for text in ["a^201", "a,b^201", "a,(b^201)^0,a", "ab, " + "a" * 201]:
            self.assert_refused(TooLong, text)

    def test_the_first_that_is_refused_decides(self):
        self.assert_refused(TooLong, "a^201,c")
        self.assert_refused(TooLong, "a^201,")
        self.assert_refused(TooLong, "a , a^201 , ()")
        self.assert_refused(TooLong, "b,a^201,a^01,a^201")
        self.assert_refused(NoWord, "c,a^201")
        self.assert_refused(NoWord, ",a^201")
        self.assert_refused(NoWord, "a,b b,a^201")
        self.assert_refused(NoWord, "b,a^01,a^201,a^01")
        self.assert_refused(NoWord, "a^201c,b^201")

    def test_each_word_has_a_length_of_its_own(self):
        self.assert_reads("a^200,b^200, a^200", [(1,) * 200, (2,) * 200, (1,) * 200])

    def test_two_thousand_signs(self):
        self.assert_reads("a," * 999 + "bA", [(1,)] * 999 + [(2, -1)])
        self.assert_reads(" " * 1999 + "a", [(1,)])
        self.assert_refused(NoWord, "a," * 1000)

    def test_what_is_told_is_the_askers_own(self):
        for text in ["a,b^2", "", " "]:
            words = read_list("ab", text)
            first = read_list("ab", text)
            second = read_list("ab", text)
            first.append((9,))
            self.assertEqual(second, words)
            first.clear()
            self.assertEqual(second, words)
            self.assertEqual(read_list("ab", text), words)


class ShownList(unittest.TestCase):
    def test_words(self):
        self.assertEqual(shown_list("ab", [(1,)]), "a")
        self.assertEqual(shown_list("ab", [(1,), (2,)]), "a, b")
        self.assertEqual(shown_list("ab", [(1, 1), (), (-2, 2), (1, 1)]), "a^2, 1, Bb, a^2")
        self.assertEqual(shown_list("ba", [(1,), (-2,)]), "b, A")

    def test_the_empty_list(self):
        self.assertEqual(shown_list("ab", []), "")
        self.assertEqual(read_list("ab", shown_list("ab", [])), [])

    def test_a_list_of_the_empty_word(self):
        self.assertEqual(shown_list("ab", [()]), "1")
        self.assertEqual(shown_list("ab", [(), ()]), "1, 1")

    def test_read_again(self):
        words = [word for size in range(4) for word in itertools.product((1, -1, 2, -2), repeat=size)]
        for names in ["ab", "yx"]:
            self.assertEqual(read_list(names, shown_list(names, words)), words)
            for one, other in zip(words, reversed(words)):
                text = shown_list(names, [one, other])
                self.assertEqual(text, shown(names, one) + ", " + shown(names, other))
                self.assertEqual(read_list(names, text), [one, other])
                self.assertEqual([read(names, part) for part in text.split(", ")], [one, other])

    def test_long_words_read_again(self):
        words = [(1,) * 200, (), (1, -2) * 100, (-2,) * 199]
        self.assertEqual(read_list("ab", shown_list("ab", words)), words)

    def test_the_list_stays(self):
        words = [(1, 1), (), (2,)]
        self.assertEqual(shown_list("ab", words), "a^2, 1, b")
        self.assertEqual(words, [(1, 1), (), (2,)])
        words.append((-1,))
        self.assertEqual(shown_list("ab", words), "a^2, 1, b, A")
        words.clear()
        self.assertEqual(shown_list("ab", words), "")


if __name__ == "__main__":
    unittest.main()
