import itertools
import re
import string
import unittest

from cosetyard.errors import NoWord, TooLong
from cosetyard.texts import read, shown

ALPHABET = string.ascii_lowercase
# All signs that a text may have.
SIGNS = [chr(code) for code in range(ord(" "), ord("~") + 1) if chr(code) != "%"]


def outcome(names, text):
    try:
        return read(names, text)
    except NoWord:
        return "NoWord"
    except TooLong:
        return "TooLong"


POWER = re.compile(r"\^(-?[0-9]+)")
PIECES = r"(?:[abAB1](?:\^-?(?:0|[1-9][0-9]{0,2})(?![0-9]))?)+"
BRACKETS = re.compile(r"\(" + PIECES + r"\)")
BASES = {"a": (1,), "A": (-1,), "b": (2,), "B": (-2,), "1": ()}


def is_text_of_a_word(text):
    """Asked by the names ab: brackets that are right are turned into a letter, until none are left."""
    before = None
    while text != before:
        before = text
        text = BRACKETS.sub("a", text)
    return re.fullmatch(PIECES, text) is not None


def level_by_hand(text, at):
    """The word from the place on to where its brackets close, that place, and whether something was too long."""
    word, much = (), False
    while at < len(text) and text[at] != ")":
        if text[at] == "(":
            base, at, inner = level_by_hand(text, at + 1)
            much = much or inner
        else:
            base = BASES[text[at]]
        at += 1
        power = POWER.match(text, at)
        count = 1
        if power:
            count = int(power.group(1))
            at = power.end()
        if count < 0:
            base = tuple(-step for step in base[::-1])
        much = much or len(base) * abs(count) > 200
        if not much:
            word += base * abs(count)
    return word, at, much or len(word) > 200


def outcome_by_hand(text):
    if not is_text_of_a_word(text):
        return "NoWord"
    word, at, much = level_by_hand(text, 0)
    return "TooLong" if much else word


class TextCase(unittest.TestCase):
    def assert_reads(self, names, text, word):
        told = read(names, text)
        self.assertIs(type(told), tuple, text)
        for step in told:
            self.assertIs(type(step), int, text)
        self.assertEqual(told, word, text)

    def assert_no_word(self, text, names="ab"):
        self.assertEqual(outcome(names, text), "NoWord", text)

    def assert_too_long(self, text, names="ab"):
        self.assertEqual(outcome(names, text), "TooLong", text)


class Read(TextCase):
    def test_the_documents_example(self):
        self.assert_reads("ab", "a(bA)^2B^-2", (1, 2, -1, 2, -1, 2, 2))

    def test_letters(self):
        self.assert_reads("ab", "a", (1,))
        self.assert_reads("ab", "A", (-1,))
        self.assert_reads("ab", "b", (2,))
        self.assert_reads("ab", "B", (-2,))
        self.assert_reads("ab", "abAB", (1, 2, -1, -2))

    def test_nothing_is_thinned(self):
        self.assert_reads("ab", "aA", (1, -1))
        self.assert_reads("ab", "(aA)^2", (1, -1, 1, -1))
        self.assert_reads("ab", "a^2a^-2", (1, 1, -1, -1))

    def test_the_empty_word(self):
        for text in ["1", "1^5", "(1)", "11", "1^0", "1^-1", "1^999", "1^-999", "((1)^3)^999", "(11)^-7", "a^0", "(ab)^0"]:
            self.assert_reads("ab", text, ())

    def test_the_empty_word_beside_letters(self):
        self.assert_reads("ab", "a1", (1,))
        self.assert_reads("ab", "1a", (1,))
        self.assert_reads("ab", "a1b", (1, 2))
        self.assert_reads("ab", "a(1)b^2", (1, 2, 2))

    def test_brackets_within_brackets(self):
        self.assert_reads("ab", "(a)", (1,))
        self.assert_reads("ab", "((a))", (1,))
        self.assert_reads("ab", "(a(bA)^2)^2", (1, 2, -1, 2, -1) * 2)
        self.assert_reads("ab", "((ab)^2A)^-1b", (1, -2, -1, -2, -1, 2))
        self.assert_reads("ab", "((a)(b))^2(A)", (1, 2, 1, 2, -1))

    def test_powers(self):
        self.assert_reads("ab", "a^1", (1,))
        self.assert_reads("ab", "a^0", ())
        self.assert_reads("ab", "a^-0", ())
        self.assert_reads("ab", "(ab)^-0b", (2,))
        self.assert_reads("ab", "a^-1", (-1,))
        self.assert_reads("ab", "A^-1", (1,))
        self.assert_reads("ab", "A^3", (-1, -1, -1))
        self.assert_reads("ab", "(ab)^-1", (-2, -1))
        self.assert_reads("ab", "(aB)^-2", (2, -1, 2, -1))
        self.assert_reads("ab", "a^21", (1,) * 21)
        self.assert_reads("ab", "a^10b", (1,) * 10 + (2,))
        self.assert_reads("ab", "a^109", (1,) * 109)
        self.assert_reads("ab", "a^-200", (-1,) * 200)
        self.assert_reads("ab", "a^2b^3", (1, 1, 2, 2, 2))
        self.assert_reads("ab", "a^2(1)", (1, 1))

    def test_every_power_to_two_hundred(self):
        for power in range(201):
            self.assert_reads("ab", f"b^{power}", (2,) * power)
            self.assert_reads("ab", f"b^-{power}", (-2,) * power)

    def test_every_power_of_the_empty_word(self):
        for power in range(1000):
            self.assert_reads("ab", f"1^{power}a", (1,))
            self.assert_reads("ab", f"1^-{power}a", (1,))

    def test_names_in_another_order(self):
        self.assert_reads("ba", "abAB", (2, 1, -2, -1))
        self.assert_reads("zxy", "xyzZYX", (2, 3, 1, -1, -3, -2))

    def test_one_name(self):
        self.assert_reads("q", "qQ^2", (1, -1, -1))
        self.assert_no_word("a", "q")

    def test_twenty_six_names(self):
        for names in [ALPHABET, ALPHABET[::-1], ALPHABET[13:] + ALPHABET[:13]]:
            for place, name in enumerate(names):
                self.assert_reads(names, name, (place + 1,))
                self.assert_reads(names, name.upper(), (-place - 1,))
            self.assert_reads(names, names, tuple(range(1, 27)))

    def test_two_thousand_signs(self):
        self.assert_reads("ab", "1" * 2000, ())
        self.assert_reads("ab", "1" * 1999 + "a", (1,))
        self.assert_reads("ab", "a^0b^-0(1)1" + "1" * 1789 + "ab" * 100, (1, 2) * 100)
        self.assert_no_word("1" * 1999 + " ")
        self.assert_no_word("a" * 1999 + "(")
        self.assert_too_long("a" * 2000)
        self.assert_too_long("a^200" * 400)

    def test_twenty_brackets(self):
        self.assert_reads("ab", "(" * 20 + "a" + ")" * 20, (1,))
        self.assert_reads("ab", "(" * 20 + "aB" + ")^-1" * 20, (1, -2))
        self.assert_reads("ab", "(" * 20 + "a" + "b)" * 20 + "A", (1,) + (2,) * 20 + (-1,))
        self.assert_reads("ab", "(" * 7 + "a" + ")^2" * 7, (1,) * 128)
        self.assert_too_long("(" * 20 + "a" + ")^2" * 20)
        self.assert_too_long("(" * 20 + "a^200" + ")^200" * 20)
        self.assert_no_word("(" * 20 + "a" + ")" * 19)
        self.assert_no_word("(" * 19 + "a" + ")" * 20)
        self.assert_no_word("(" * 20 + ")" * 20)


class ReadRefused(TextCase):
    def test_empty_and_blank(self):
        for text in ["", " ", "  ", " a", "a ", "a b", "( a)", "a^ 2", "a ^2", "a^2 ", "1 "]:
            self.assert_no_word(text)

    def test_strange_signs(self):
        for sign in SIGNS:
            if sign not in "abAB1()^":
                for text in [sign, "a" + sign, sign + "a", "a" + sign + "b", "(a" + sign + ")", "a^2" + sign + "b"]:
                    if not re.fullmatch(r"a\^2[0-9]b", text):
                        self.assert_no_word(text)

    def test_a_letter_that_is_no_name(self):
        for text in ["c", "C", "abc", "(c)", "c^0", "a^2c", "z", "Z"]:
            self.assert_no_word(text)
        self.assert_no_word("a", "bc")
        self.assert_no_word("A", "bc")

    def test_a_figure_that_is_no_power(self):
        for text in ["a2", "2", "0", "a0", "12", "10", "(a)2", "(2)", "2a", "a-2", "a-1", "-1", "1-"]:
            self.assert_no_word(text)

    def test_brackets(self):
        for text in ["()", "a()", "()a", "(())", "()^2", "(a)()", "(", ")", "(a", "a)", "a(", ")a", "((a)", "(a))",
                     ")(", "a)(b", "(a)b)", "(a(b)", ")a(", "[a]", "{a}", "<a>"]:
            self.assert_no_word(text)

    def test_a_power_that_stands_alone(self):
        for text in ["^", "^2", "^2a", "^-1", "(^2)", "(^2a)", "a(^2)", "^^", "^1"]:
            self.assert_no_word(text)

    def test_a_power_without_a_figure(self):
        for text in ["a^", "a^-", "a^b", "a^-b", "(a)^", "(a^)", "(a)^-", "a^--1", "a^+1", "a^(2)", "1^", "a^)", "(a^-)",
                     "a^2-", "a^1-1", "a^-"]:
            self.assert_no_word(text)

    def test_a_power_behind_a_power(self):
        for text in ["a^2^2", "a^1^1", "(a)^2^2", "a^0^0", "a^^2", "1^2^3", "a^-1^2", "(a^2^2)"]:
            self.assert_no_word(text)

    def test_figures_of_a_power(self):
        for text in ["a^01", "a^00", "a^001", "a^-01", "a^-00", "a^02", "a^1234", "a^1000", "a^-1234", "a^0000", "a^2000",
                     "1^01", "1^1000", "1^-1000", "1^00", "(a)^01", "(1)^1234", "a^12345678901234567890"]:
            self.assert_no_word(text)


class ReadTooLong(TextCase):
    def test_the_whole_word(self):
        self.assert_reads("ab", "a" * 200, (1,) * 200)
        self.assert_too_long("a" * 201)
        self.assert_reads("ab", "a^100b^100", (1,) * 100 + (2,) * 100)
        self.assert_too_long("a^100b^101")
        self.assert_too_long("a^101b^100")
        self.assert_too_long("a^200b")
        self.assert_too_long("ba^200")
        self.assert_reads("ab", "a^200(1)", (1,) * 200)
        self.assert_reads("ab", "a^200b^0", (1,) * 200)
        self.assert_reads("ab", "1a^-200", (-1,) * 200)
        self.assert_too_long("(a^100)(b^101)")
        self.assert_too_long("a^150A^150")

    def test_what_brackets_hold(self):
        self.assert_reads("ab", "(a^100b^100)", (1,) * 100 + (2,) * 100)
        self.assert_reads("ab", "(a^100b^100)^0", ())
        self.assert_too_long("(a^100b^101)^0")
        self.assert_too_long("(a^100b^101)^-0")
        self.assert_too_long("((a^100b^101)^0)")
        self.assert_too_long("a((a^100b^101)^0b)^0")
        self.assert_too_long("(" + "a" * 201 + ")^0b")
        self.assert_too_long("b(a^200b)^0")
        self.assert_too_long("((a)^200b)^0")

    def test_a_piece_with_its_power(self):
        self.assert_reads("ab", "a^200", (1,) * 200)
        self.assert_too_long("a^201")
        self.assert_too_long("a^-201")
        self.assert_too_long("a^999")
        self.assert_too_long("A^-999")
        self.assert_reads("ab", "(ab)^100", (1, 2) * 100)
        self.assert_reads("ab", "(ab)^-100", (-2, -1) * 100)
        self.assert_too_long("(ab)^101")
        self.assert_too_long("(ab)^-101")
        self.assert_reads("ab", "(a^20)^10", (1,) * 200)
        self.assert_too_long("(a^20)^11")
        self.assert_too_long("(a^201)^0")
        self.assert_too_long("((ab)^101)^0")
        self.assert_too_long("((a^20)^-11)^0b")
        self.assert_too_long("a(b^201)^0")
        self.assert_reads("ab", "(a^200)^0b^200", (2,) * 200)
        self.assert_reads("ab", "(a^200)^0(b^200)^0(a^200)^0", ())
        self.assert_reads("ab", "(a^200)^-1", (-1,) * 200)

    def test_where_the_rest_has_few_steps(self):
        self.assert_too_long("aba^201")
        self.assert_too_long("a^201ba")
        self.assert_too_long("1^9a^201(b)^0")

    def test_no_word_goes_ahead_of_too_long(self):
        for much in ["a^201", "a" * 201, "(ab)^101", "(a^201)^0", "(a^150b^150)^0"]:
            self.assert_too_long(much)
            for text in [much + " ", " " + much, much + "c", "c" + much, much + "^", "^2" + much, much + "(", ")" + much,
                         much + ")", "(" + much, much + "()", "()" + much, much + "a^01", "a^1234" + much, much + "2",
                         much + "b^2^2", "(" + much + "$)", "(" + much + "()b)^0", much + "a^1000", much + "a^-"]:
                self.assert_no_word(text)


class ReadBesideAnotherReader(TextCase):
    def test_all_short_texts(self):
        for size in range(6):
            for signs in itertools.product("aB1()^-02", repeat=size):
                text = "".join(signs)
                self.assertEqual(outcome("ab", text), outcome_by_hand(text), text)

    def test_lengths(self):
        parts = ["a", "B", "1", "(", ")", "^0", "^-2", "^100", "^-101", "^200", "^201", "a^199"]
        for size in range(5):
            for chosen in itertools.product(parts, repeat=size):
                text = "".join(chosen)
                self.assertEqual(outcome("ab", text), outcome_by_hand(text), text)

    def test_lengths_within_brackets(self):
        parts = ["a", "(", ")", "^0", "^2", "^100", "^-201"]
        for chosen in itertools.product(parts, repeat=4):
            for text in ["(" + "".join(chosen) + ")^0b", "b^100(" + "".join(chosen) + ")"]:
                self.assertEqual(outcome("ab", text), outcome_by_hand(text), text)


class Shown(TextCase):
    def test_the_empty_word(self):
        self.assertEqual(shown("ab", ()), "1")
        self.assertEqual(shown("q", ()), "1")

    def test_single_steps(self):
        self.assertEqual(shown("ab", (1,)), "a")
        self.assertEqual(shown("ab", (-1,)), "A")
        self.assertEqual(shown("ab", (2,)), "b")
        self.assertEqual(shown("ab", (-2,)), "B")
        self.assertEqual(shown("ba", (1, -2)), "bA")

    def test_the_same_step_in_a_row(self):
        self.assertEqual(shown("ab", (1, 1)), "a^2")
        self.assertEqual(shown("ab", (1, 1, 1)), "a^3")
        self.assertEqual(shown("ab", (-1, -1)), "A^2")
        self.assertEqual(shown("ab", (1, 1, 2, 1, -2, -2, -2)), "a^2baB^3")
        self.assertEqual(shown("ab", (1, 2, 2)), "ab^2")
        self.assertEqual(shown("ab", (1, 2, 1, 2)), "abab")
        self.assertEqual(shown("ab", (1,) * 12 + (2,) * 10), "a^12b^10")

    def test_a_step_beside_its_back(self):
        self.assertEqual(shown("ab", (1, -1)), "aA")
        self.assertEqual(shown("ab", (-1, 1)), "Aa")
        self.assertEqual(shown("ab", (1, 1, -1, -1, 1)), "a^2A^2a")

    def test_twenty_six_names(self):
        for names in [ALPHABET, ALPHABET[::-1]]:
            self.assertEqual(shown(names, tuple(range(1, 27))), names)
            self.assertEqual(shown(names, tuple(range(-1, -27, -1))), names.upper())

    def test_two_thousand_steps(self):
        self.assertEqual(shown("ab", (1,) * 2000), "a^2000")
        self.assertEqual(shown("ab", (1, -2) * 1000), "aB" * 1000)
        self.assertEqual(shown("ab", (1,) * 999 + (2,) * 1001), "a^999b^1001")

    def test_kind(self):
        for word in [(), (1,), (1, 1)]:
            self.assertIs(type(shown("ab", word)), str)

    def test_all_short_words_are_read_again(self):
        for names in ["ab", "zc"]:
            for size in range(6):
                for word in itertools.product((1, -1, 2, -2), repeat=size):
                    text = shown(names, word)
                    self.assert_reads(names, text, word)
                    self.assertNotRegex(text, r"([A-Za-z])(\^[0-9]+)?\1")
                    self.assertNotRegex(text, r"[(]|\^1|-")

    def test_long_words_are_read_again(self):
        words = [(1,) * 200, (-2,) * 200, (1, 2) * 100, (1, 1, -2) * 66, tuple(range(1, 27)) * 7,
                 tuple(k // 3 % 26 + 1 for k in range(200)), tuple((-1) ** k * (k // 7 % 26 + 1) for k in range(200))]
        for word in words:
            for names in [ALPHABET, ALPHABET[::-1]]:
                self.assert_reads(names, shown(names, word), word)

    def test_the_word_stays(self):
        word = (1, 1, -2)
        shown("ab", word)
        self.assertEqual(word, (1, 1, -2))


if __name__ == "__main__":
    unittest.main()
