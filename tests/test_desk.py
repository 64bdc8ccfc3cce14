import re
import unittest

from cosetyard.desk import Desk
from cosetyard.errors import NoWord, TooLong, TooMany
from cosetyard.filling import fill
from cosetyard.inner import inner_letters, inner_rules, inner_words
from cosetyard.texts import read, read_list, shown
from cosetyard.turnings import parted, rings, times, turning
from cosetyard.ways import least_ways
from helper import Chance

FOUR = ["letters ab", "rule a^4, b^2, (ab)^3"]

# What may be asked of a desk without changing it; together the answers tell its whole table and paper.
OF_A_TABLE = ["way 0", "turn a", "times a", "same a, a", "inner", "inner 1", "paper", "paper 0"]


def desk_of(*rows):
    desk = Desk()
    for row in rows:
        desk.say(row)
    return desk


def asked_all(desk):
    """All that a desk tells of its table, if there is one."""
    told = [desk.say(row) for row in OF_A_TABLE + ["turn b", "turn c", "turn d"]]
    for word in ["way", "inner", "paper"]:
        told.append([desk.say(f"{word} {number}") for number in range(70)])
    return told


def without_table(rows):
    """A desk to which these rows were said, and what it comes to when it is filled then."""
    desk = desk_of(*rows)
    return [desk.say("fill 60"), asked_all(desk)]


class DeskCase(unittest.TestCase):
    def assert_says(self, desk, *pairs):
        for row, told in pairs:
            self.assertEqual(desk.say(row), told, row)

    def assert_changes_nothing(self, ahead, row, told):
        """The row is answered so, and all stays, with a table and without one."""
        for rows in [ahead, ahead + ["fill 60"]]:
            desk = desk_of(*rows)
            before = asked_all(desk)
            self.assertEqual(desk.say(row), told, row)
            self.assertEqual(asked_all(desk), before, row)
            self.assertEqual(desk.say("fill 60"), without_table(ahead)[0])
            self.assertEqual(asked_all(desk), without_table(ahead)[1])


class Rows(DeskCase):
    def test_at_the_beginning(self):
        self.assert_says(Desk(), *[(row, "no table") for row in OF_A_TABLE])
        # One letter a, no rules, no part, the order rooms.
        self.assert_says(Desk(), ("fill 3", "too many, 3 made"), ("rule b", "refused word"), ("rule a^3", "ok"),
                         ("fill 3", "3 rooms, 3 made"), ("paper 1", "new 0 A 2"))

    def test_a_row_that_is_none(self):
        for row in ["", " ", "  ", "rules", "rule\ta", "Rule a", "FILL 3", " fill 3", " paper", "  paper", "filled 3",
                    "fil", "table", "help", "letters,ab", "paper1", "inner1", "ok", "refused row", "~", "0", "1 fill",
                    "fill3", "x y z", "words a", "quit"]:
            self.assert_changes_nothing(FOUR, row, "refused row")

    def test_without_a_rest(self):
        for row in ["letters", "rule", "part", "order", "fill", "way", "turn", "times", "same"]:
            self.assert_says(Desk(), (row, "refused row"))
            self.assert_changes_nothing(FOUR, row, "refused row")
        desk = desk_of(*FOUR, "fill 60")
        self.assertRegex(desk.say("inner"), "^25 letters, [0-9]+ rules$")
        self.assertRegex(desk.say("paper"), "^[0-9]+ rows$")

    def test_an_empty_rest(self):
        for row, told in [("letters ", "refused letters"), ("order ", "refused order"), ("fill ", "refused number"),
                          ("way ", "refused number"), ("turn ", "refused word"), ("times ", "refused word"),
                          ("same ", "refused word"), ("inner ", "refused number"), ("paper ", "refused number")]:
            self.assert_says(desk_of(*FOUR, "fill 60"), (row, told))
        self.assert_says(desk_of(*FOUR, "fill 60"), ("rule ", "ok"), ("paper", "no table"))
        self.assert_says(desk_of(*FOUR, "fill 60"), ("part ", "ok"), ("paper", "no table"))

    def test_two_blanks(self):
        for row, told in [("letters  ab", "refused letters"), ("order  rooms", "refused order"),
                          ("fill  60", "refused number"), ("way  0", "refused number"), ("turn  a", "refused word"),
                          ("times  a", "refused word"), ("inner  1", "refused number"), ("paper  0", "refused number"),
                          ("same  a, a", "same"), ("rule  a", "ok"), ("part  a", "ok")]:
            self.assert_says(desk_of(*FOUR, "fill 60"), (row, told))

    def test_refused_row_goes_ahead_of_no_table(self):
        for row in ["way", "turn", "times", "same", " way 0", "ways 0", "papers", "turned a"]:
            self.assert_says(Desk(), (row, "refused row"))

    def test_no_table_goes_ahead_of_what_the_rest_is(self):
        for row in ["way x", "way ", "way -1", "way 1000", "turn ?", "turn ", "turn a^300", "times (", "times ",
                    "same a", "same ", "same a, b, c", "same ?, a^300", "inner 0", "inner x", "inner ", "paper 0",
                    "paper x", "paper ", "way 0", "turn a", "times a", "same a, a", "inner", "paper"]:
            self.assert_says(Desk(), (row, "no table"))
            self.assert_says(desk_of(*FOUR, "fill 60", "part "), (row, "no table"))

    def test_kind(self):
        desk = desk_of(*FOUR, "fill 60")
        for row in OF_A_TABLE + ["", "fill 3", "rule a", "letters abc", "order newest", "paper"]:
            self.assertIs(type(desk.say(row)), str)


class Letters(DeskCase):
    def test_begins_anew(self):
        for names in ["a", "b", "z", "ab", "ba", "xyz", "dcba", "mnop"]:
            desk = desk_of(*FOUR, "part a", "order newest", "fill 60")
            self.assert_says(desk, (f"letters {names}", "ok"), ("paper", "no table"), ("way 0", "no table"),
                             ("fill 5", "too many, 5 made"))
            self.assert_says(desk, ("rule " + ", ".join(names), "ok"), ("fill 1", "1 rooms, 1 made"))
        desk = desk_of(*FOUR, "part a", "order newest", "fill 60", "letters ab", "rule a^3, b^2, (ab)^2")
        self.assertEqual([desk.say("fill 60"), asked_all(desk)],
                         without_table(["letters ab", "rule a^3, b^2, (ab)^2"]))

    def test_the_same_names_too(self):
        self.assert_says(desk_of("rule a", "fill 1"), ("letters a", "ok"), ("paper", "no table"),
                         ("fill 2", "too many, 2 made"))

    def test_refused(self):
        for names in ["", "abcde", "aa", "aba", "abcdd", "A", "aB", "Ab", "1", "a1", "a b", " a", "a ", "a,b", "ab ",
                      "abcdefghijklmnopqrstuvwxyz", "-", "a^2", "(a)", "{", "`", "@"]:
            self.assert_changes_nothing(FOUR, f"letters {names}", "refused letters")

    def test_names_in_their_order(self):
        desk = desk_of("letters ba", "rule b^2, a^3, bab^-1A", "fill 60")
        self.assert_says(desk, ("way 1", "b"), ("way 2", "a"), ("way 3", "A"), ("paper 0", "new 0 b 1"))


class RulesAndPart(DeskCase):
    def test_put_behind_those_that_are_there(self):
        one = without_table(["letters ab", "rule a^4, b^2, (ab)^3", "part a^2, b"])
        self.assertEqual(without_table(["letters ab", "rule a^4", "rule b^2,(ab)^3", "part a^2", "part  b "]), one)
        self.assertEqual(without_table(["letters ab", "part a^2", "rule a^4, b^2", "part b", "rule (ab)^3"]), one)
        # The places of the paper's rows follow the order in which the rules came.
        desk = desk_of("rule a^7", "rule 1", "rule a", "fill 5")
        self.assert_says(desk, ("paper 0", "rule 2 at 0: 0 0"))
        desk = desk_of("letters ab", "rule a", "part b", "rule ", "fill 5")
        self.assertEqual({desk.say("paper 0"), desk.say("paper 1")}, {"rule 0 at 0: 0 0", "rule 1 at 0: 0 0"})

    def test_there_is_no_table_then(self):
        for row in ["rule a^4", "part a", "rule ", "part ", "rule    ", "part    ", "rule 1", "part 1"]:
            self.assert_says(desk_of(*FOUR, "fill 60"), ("paper 0", "new 0 a 1"), (row, "ok"), ("paper 0", "no table"))

    def test_an_empty_list_adds_nothing(self):
        self.assertEqual(without_table(FOUR + ["rule ", "part ", "rule   "]), without_table(FOUR))

    def test_refused(self):
        for kind in ["rule", "part"]:
            for text, told in [("c", "refused word"), ("a,", "refused word"), (",", "refused word"),
                               ("a, ,b", "refused word"), ("a b", "refused word"), ("a^", "refused word"),
                               ("(a", "refused word"), ("a^201", "refused long"), ("(ab)^101", "refused long"),
                               ("a^300, c", "refused long"), ("c, a^300", "refused word"), ("a, b^201", "refused long"),
                               ("a, b, ?", "refused word"), ("a^300c", "refused word"), ("a^01", "refused word")]:
                self.assert_changes_nothing(FOUR + ["part ab"], f"{kind} {text}", told)

    def test_four_hundred_rules_and_sixty_words(self):
        desk = desk_of(*["rule a^6, 1, a^12, a^18"] * 100, *["part 1, a^4, A^4"] * 20)
        self.assert_says(desk, ("fill 400", "2 rooms, 4 made"), ("inner", "1 letters, 3 rules"))

    def test_two_hundred_steps(self):
        self.assert_says(desk_of("rule a^200"), ("fill 199", "too many, 199 made"), ("fill 200", "200 rooms, 200 made"),
                         ("way 199", "a^100"), ("way 198", "A^99"))


class Orders(DeskCase):
    def test_each(self):
        told = []
        for order in ["rooms", "letters", "newest"]:
            desk = desk_of(*FOUR)
            self.assert_says(desk, (f"order {order}", "ok"), ("fill 60", "24 rooms, 24 made"))
            rows = fill(2, [(1,) * 4, (2, 2), (1, 2) * 3], [], 60, order)[1]
            self.assert_says(desk, ("paper", f"{len(rows)} rows"))
            told.append([desk.say(f"paper {place}") for place in range(len(rows))])
            self.assertEqual([row.split()[1] for row in told[-1] if row.startswith("new")],
                             [str(row[1]) for row in rows if row[0] == "new"])
        self.assertNotEqual(told[0], told[1])
        self.assertNotEqual(told[1], told[2])

    def test_there_is_no_table_then(self):
        for order in ["rooms", "letters", "newest"]:
            self.assert_says(desk_of(*FOUR, "fill 60"), (f"order {order}", "ok"), ("paper", "no table"))
            self.assert_says(desk_of(*FOUR, f"order {order}", "fill 60"), (f"order {order}", "ok"),
                             ("paper", "no table"))

    def test_refused(self):
        for order in ["", "Rooms", "room", "rooms ", " rooms", "oldest", "letters,", "1", "rooms letters"]:
            self.assert_changes_nothing(FOUR + ["order newest"], f"order {order}", "refused order")

    def test_left_alone_by_rules_and_fillings(self):
        rows = ["rule a^5", "order newest", "part 1", "fill 3", "fill 5"]
        self.assert_says(desk_of(*rows), ("paper 1", "new 1 a 2"))
        self.assert_says(desk_of(*rows, "order rooms", "fill 5"), ("paper 1", "new 0 A 2"))


class Fill(DeskCase):
    def test_rooms_and_made(self):
        self.assert_says(desk_of("rule a"), ("fill 1", "1 rooms, 1 made"))
        self.assert_says(desk_of("rule a^2"), ("fill 1", "too many, 1 made"), ("fill 2", "2 rooms, 2 made"))
        self.assert_says(desk_of(*FOUR), ("fill 400", "24 rooms, 24 made"), ("fill 24", "24 rooms, 24 made"),
                         ("fill 23", "too many, 23 made"))
        self.assert_says(desk_of("rule a^12, a^18"), ("fill 60", "6 rooms, 12 made"), ("fill 12", "6 rooms, 12 made"),
                         ("fill 11", "too many, 11 made"))
        self.assert_says(Desk(), ("fill 400", "too many, 400 made"), ("fill 1", "too many, 1 made"))
        self.assert_says(desk_of("part a^3"), ("fill 400", "3 rooms, 3 made"))

    def test_numbers(self):
        for text in ["0", "00", "01", "001", "401", "999", "1000", "0400", "-1", "+1", "1.0", "1 ", " 1", "1 1", "x",
                     "a", "1a", "4_0", "", "^2", "one", "99999999999999999999"]:
            self.assert_changes_nothing(FOUR, f"fill {text}", "refused number")
        for number in [1, 2, 9, 10, 99, 100, 399, 400]:
            self.assert_says(Desk(), (f"fill {number}", f"too many, {number} made"))

    def test_too_many_where_there_was_a_table(self):
        desk = desk_of(*FOUR, "fill 60")
        self.assert_says(desk, ("way 1", "a"), ("fill 5", "too many, 5 made"))
        self.assert_says(desk, *[(row, "no table") for row in OF_A_TABLE])
        self.assert_says(desk, ("fill 60", "24 rooms, 24 made"), ("way 1", "a"))

    def test_twice(self):
        desk = desk_of(*FOUR, "fill 60")
        before = asked_all(desk)
        self.assert_says(desk, ("fill 60", "24 rooms, 24 made"))
        self.assertEqual(asked_all(desk), before)

    def test_four_letters(self):
        desk = desk_of("letters wxyz", "rule w^2, x^2, y^2, z^2, (wx)^3, (xy)^3, (yz)^3, (wy)^2, (wz)^2, (xz)^2")
        self.assert_says(desk, ("fill 400", "120 rooms, 120 made"), ("part w, x, y", "ok"),
                         ("fill 400", "5 rooms, 5 made"), ("turn wxyz", "(0 1 2 3 4)"), ("turn w", "(0) (1) (2) (3 4)"))


class OfATable(DeskCase):
    def test_way(self):
        desk = desk_of("letters ab", "rule a^3, b^2, (ab)^2", "fill 60")
        self.assert_says(desk, ("way 0", "1"), ("way 1", "a"), ("way 2", "A"), ("way 3", "b"), ("way 4", "ab"),
                         ("way 5", "Ab"))
        desk = desk_of("rule a^9", "fill 9")
        self.assert_says(desk, ("way 7", "a^4"), ("way 8", "A^4"))
        for text in ["6", "7", "00", "01", "-0", "-1", "999", "1000", "", "a", "0 ", " 0", "5a", "0000"]:
            self.assert_changes_nothing(["letters ab", "rule a^3, b^2, (ab)^2", "fill 60"], f"way {text}",
                                        "refused number")

    def test_way_in_four_hundred_rooms(self):
        desk = desk_of("letters ab", "rule a^2, b^2, (ab)^100", "part ", "fill 400")
        self.assert_says(desk, ("way 199", "ab" * 50), ("way 200", "refused number"), ("way 400", "refused number"))
        desk = desk_of("letters ab", "rule a^20, b^20, abAB", "fill 400")
        self.assert_says(desk, ("way 399", "a^10b^10"), ("way 400", "refused number"), ("way 401", "refused number"))

    def test_turn(self):
        desk = desk_of("letters ab", "rule a^2, b^2, (ab)^3", "part a", "fill 60")
        self.assert_says(desk, ("turn a", "(0) (1 2)"), ("turn b", "(0 1) (2)"), ("turn ab", "(0 1 2)"),
                         ("turn ba", "(0 2 1)"), ("turn 1", "(0) (1) (2)"), ("turn (ab)^3", "(0) (1) (2)"))
        self.assert_says(desk_of("rule a", "fill 1"), ("turn a", "(0)"))
        self.assert_says(desk_of("rule a^12", "fill 12"), ("turn a^4", "(0 7 8) (1 9 6) (2 5 10) (3 11 4)"))

    def test_times(self):
        desk = desk_of("letters ab", "rule a^4, b^2, (ab)^3", "fill 60")
        self.assert_says(desk, ("times a", "4"), ("times 1", "1"), ("times ab", "3"), ("times aB", "3"),
                         ("times b", "2"), ("times a^2", "2"), ("times a^200", "1"), ("times A^199", "4"))
        desk = desk_of("letters ab", "rule a^9, b^40, abAB", "fill 400")
        self.assert_says(desk, ("times ab", "360"), ("times a^3b^5", "24"), ("times a^6B^4", "30"), ("times b^80", "1"))

    def test_words_that_are_refused(self):
        for kind in ["turn", "times"]:
            for text, told in [("", "refused word"), ("c", "refused word"), ("a,b", "refused word"),
                               ("a b", "refused word"), ("a ", "refused word"), ("a^201", "refused long"),
                               ("(a^101)^2", "refused long"), ("a^201c", "refused word"), ("()", "refused word"),
                               ("a^-01", "refused word"), ("2", "refused word")]:
                self.assert_changes_nothing(FOUR + ["fill 60"], f"{kind} {text}", told)

    def test_same(self):
        desk = desk_of("letters ab", "rule a^2, b^2, (ab)^3", "part a", "fill 60")
        self.assert_says(desk, ("same a, A", "same"), ("same aba, bab", "same"), ("same 1, (ab)^3", "same"),
                         ("same a,b", "apart at 0"), ("same 1, a", "apart at 1"), ("same a,1", "apart at 1"),
                         ("same  ab ,  ba ", "apart at 0"), ("same a, a", "same"))

    def test_same_refused(self):
        for text, told in [("", "refused word"), ("  ", "refused word"), ("a", "refused word"),
                           ("a, b, a", "refused word"), ("a,", "refused word"), (",", "refused word"),
                           ("a, c", "refused word"), ("a^201, a", "refused long"), ("a, a^201", "refused long"),
                           ("c, a^201", "refused word"), ("a^201, c", "refused long"), ("a, b, a^201", "refused long"),
                           ("a^201", "refused long"), ("a b", "refused word"), ("a,b,c", "refused word")]:
            self.assert_changes_nothing(FOUR + ["fill 60"], f"same {text}", told)

    def test_inner(self):
        self.assert_says(desk_of("rule a^5", "fill 5"), ("inner", "1 letters, 1 rules"), ("inner 1", "a^5"),
                         ("inner 2", "refused number"), ("inner 0", "refused number"))
        self.assert_says(desk_of("part a^3", "fill 5"), ("inner", "1 letters, 0 rules"), ("inner 1", "a^3"))
        desk = desk_of("letters ab", "rule a^3, b^2, (ab)^2", "part b", "fill 60")
        self.assert_says(desk, ("inner", "4 letters, 7 rules"), ("inner 1", "b"), ("inner 2", "a^3"),
                         ("inner 3", "aba"), ("inner 4", "AbA"), ("inner 5", "refused number"))
        for text in ["0", "00", "01", "-1", "x", "", "1 ", " 1", "5", "999", "1000"]:
            self.assert_changes_nothing(["letters ab", "rule a^3, b^2, (ab)^2", "part b", "fill 60"], f"inner {text}",
                                        "refused number")

    def test_paper(self):
        desk = desk_of("letters ab", "rule a^2, b", "fill 60")
        rows = fill(2, [(1, 1), (2,)], [], 60)[1]
        self.assert_says(desk, ("paper", f"{len(rows)} rows"), (f"paper {len(rows)}", "refused number"))
        self.assertIn("new 0 a 1", [desk.say(f"paper {place}") for place in range(len(rows))])
        for text in [str(len(rows)), "00", "01", "-1", "x", "", "0 ", " 0", "999", "1000"]:
            self.assert_changes_nothing(["letters ab", "rule a^2, b", "fill 60"], f"paper {text}", "refused number")

    def test_a_paper_of_over_a_thousand_rows(self):
        # There are 1,600 ways of letters, and no row makes more than one of them known.
        desk = desk_of("letters abcd", "rule a^20, b^20, abAB, c, d")
        self.assert_says(desk, ("fill 400", "400 rooms, 400 made"))
        many = int(desk.say("paper").split()[0])
        self.assertGreaterEqual(many, 1600)
        self.assertRegex(desk.say("paper 999"), "^(new|rule|meet) [0-9]")
        self.assert_says(desk, ("paper 1000", "refused number"), (f"paper {many - 1}", "refused number"))

    def test_each_kind_of_row_of_the_paper(self):
        kinds = set()
        for rows, letters, rules, part in [
                (["letters ab", "rule a^3, b^2, (ab)^2", "part b"], 2, [(1,) * 3, (2, 2), (1, 2) * 2], [(2,)]),
                (["letters xy", "rule xyxYXY, x^3"], 2, [(1, 2, 1, -2, -1, -2), (1, 1, 1)], []),
                (["letters ab", "rule abABB, baBAA"], 2, [(1, 2, -1, -2, -2), (2, 1, -2, -1, -1)], [])]:
            desk = desk_of(*rows, "fill 400")
            names = rows[0][-2:]
            for place, row in enumerate(fill(letters, rules, part, 400)[1][:1000]):
                kinds.add(row[0])
                self.assertEqual(desk.say(f"paper {place}"), shown_by_hand(names, row))
        self.assertEqual(kinds, {"new", "rule", "meet"})

    def test_rows_as_they_are_shown(self):
        self.assert_says(desk_of("rule a", "fill 1"), ("paper 0", "rule 0 at 0: 0 0"))
        self.assert_says(desk_of("letters xy", "rule x, y", "fill 1"), ("paper", "2 rows"))
        desk = desk_of("rule a^2, a^3", "fill 5")
        self.assertRegex(desk.say("paper 0"), "^new 0 a 1$")
        shown_rows = [desk.say(f"paper {place}") for place in range(int(desk.say("paper").split()[0]))]
        self.assertTrue(any(re.fullmatch("rule [01] at [0-9]: [0-9]( [0-9])+", row) for row in shown_rows))
        self.assertTrue(any(re.fullmatch("meet [0-9] [aA] 0 1", row) for row in shown_rows))


def shown_by_hand(names, row):
    numbers = [str(number) for number in row[1:] if type(number) is int]
    if row[0] == "rule":
        return "rule {} at {}: {}".format(row[1], row[3], " ".join(map(str, row[2])))
    letter = names[abs(row[2]) - 1]
    numbers[1] = letter if row[2] > 0 else letter.upper()
    return " ".join([row[0]] + numbers)


class Model:
    """Point 28 once more: the rows are told apart by patterns, and all is looked up anew at each answer."""

    patterns = [("letters", "(.*)"), ("rule", "(.*)"), ("part", "(.*)"), ("order", "(.*)"), ("fill", "(.*)"),
                ("way", "(.*)"), ("turn", "(.*)"), ("times", "(.*)"), ("same", "(.*)"), ("inner", None),
                ("inner", "(.*)"), ("paper", None), ("paper", "(.*)")]

    def __init__(self):
        self.kept = ("a", [], [], "rooms", None)

    def say(self, row):
        for word, rest in self.patterns:
            found = re.fullmatch(word if rest is None else f"{word} {rest}", row)
            if found:
                break
        else:
            return "refused row"
        names, rules, part, order, filled = self.kept
        if word in ("way", "turn", "times", "same", "inner", "paper") and filled is None:
            return "no table"
        try:
            return getattr(self, word)(*found.groups())
        except NoWord:
            return "refused word"
        except TooLong:
            return "refused long"

    def letters(self, rest):
        if not re.fullmatch("[a-z]{1,4}", rest) or len(set(rest)) < len(rest):
            return "refused letters"
        self.kept = (rest, [], [], "rooms", None)
        return "ok"

    def rule(self, rest):
        names, rules, part, order, filled = self.kept
        self.kept = (names, rules + read_list(names, rest), part, order, None)
        return "ok"

    def part(self, rest):
        names, rules, part, order, filled = self.kept
        self.kept = (names, rules, part + read_list(names, rest), order, None)
        return "ok"

    def order(self, rest):
        if rest not in ("rooms", "letters", "newest"):
            return "refused order"
        self.kept = self.kept[:3] + (rest, None)
        return "ok"

    def fill(self, rest):
        if not re.fullmatch("[1-9][0-9]{0,2}", rest) or int(rest) > 400:
            return "refused number"
        names, rules, part, order, filled = self.kept
        try:
            table, paper = fill(len(names), rules, part, int(rest), order)
        except TooMany as error:
            self.kept = self.kept[:4] + (None,)
            return f"too many, {error.made} made"
        self.kept = self.kept[:4] + ((table, paper),)
        return f"{len(table)} rooms, {1 + [row[0] for row in paper].count('new')} made"

    def numbered(self, rest, things):
        if not re.fullmatch("0|[1-9][0-9]{0,2}", rest) or int(rest) not in things:
            return "refused number"
        return things[int(rest)]

    def way(self, rest):
        ways = least_ways(self.kept[4][0])
        return self.numbered(rest, {room: shown(self.kept[0], way) for room, way in enumerate(ways)})

    def turn(self, rest):
        turned = turning(self.kept[4][0], read(self.kept[0], rest))
        return " ".join("(" + " ".join(map(str, found)) + ")" for found in rings(turned))

    def times(self, rest):
        return "%d" % times(turning(self.kept[4][0], read(self.kept[0], rest)))

    def same(self, rest):
        words = read_list(self.kept[0], rest)
        if len(words) != 2:
            return "refused word"
        room = parted(self.kept[4][0], *words)
        return "same" if room is None else f"apart at {room}"

    def inner(self, rest=None):
        names, rules, part, order, (table, paper) = self.kept
        if rest is None:
            return f"{len(inner_letters(table))} letters, {len(inner_rules(table, rules))} rules"
        words = [shown(names, word) for word in inner_words(table)]
        return self.numbered(rest, dict(enumerate(words, start=1)))

    def paper(self, rest=None):
        names, rules, part, order, (table, paper) = self.kept
        if rest is None:
            return f"{len(paper)} rows"
        return self.numbered(rest, {place: shown_by_hand(names, row) for place, row in enumerate(paper)})


WORDS = ["a", "a", "b", "A", "a^2", "b^2", "a^3", "(ab)^2", "(ab)^3", "abAB", "1", "c", "aB", "a^4", "c^2", "a^201", "",
         "?", "a^01", "b^2", "a^3"]
NUMBERS = ["0", "1", "2", "3", "5", "6", "7", "11", "12", "20", "00", "01", "24", "40", "60", "400", "401", "999", "1000",
           "-1", "", " 1", "1 ", "x"]
OTHERS = ["ab", "a", "abc", "ba", "aa", "abcde", "A", "", "rooms", "letters", "newest", "Rooms", "oldest"]


def some_row(chance):
    kind = chance.one_of(["letters", "rule", "rule", "rule", "part", "order", "fill", "fill", "way", "turn", "times",
                          "same", "same", "inner", "paper", "inner", "paper", "fill", "turn", "way", "rooms", ""])
    if chance.below(12) == 0:
        return kind
    if kind in ("inner", "paper") and chance.below(2):
        return kind
    if kind in ("rule", "part", "same"):
        return kind + " " + ", ".join(chance.one_of(WORDS) for place in range(1 + chance.below(3)))
    if kind in ("turn", "times"):
        return kind + " " + chance.one_of(WORDS)
    if kind in ("letters", "order"):
        return kind + " " + chance.one_of(OTHERS)
    return kind + " " + chance.one_of(NUMBERS)


class ManyRows(DeskCase):
    def test_against_another_desk_by_the_same_words(self):
        told = {}
        for seed in range(150):
            chance = Chance(seed)
            desk = Desk()
            model = Model()
            rows = ["letters ab", "rule a^3, b^2", chance.one_of(["rule (ab)^2", "rule abAB", "part a", "rule (ab)^3"])]
            for row in rows + [some_row(chance) for place in range(60)]:
                answer = desk.say(row)
                self.assertEqual(answer, model.say(row), row)
                kind = re.sub("[0-9]+", "N", answer)
                told[kind] = told.get(kind, 0) + 1
        for kind in ["ok", "refused row", "no table", "refused letters", "refused order", "refused number",
                     "refused word", "refused long", "N rooms, N made", "too many, N made", "same", "apart at N",
                     "N letters, N rules", "N rows", "(N N N)", "(N)", "new N a N", "N"]:
            self.assertGreater(told.get(kind, 0), 0, kind)


class TwoDesks(DeskCase):
    def test_side_by_side(self):
        one = Desk()
        other = Desk()
        self.assert_says(one, ("letters xy", "ok"), ("rule x^3, y", "ok"), ("part 1", "ok"), ("order newest", "ok"))
        self.assert_says(other, ("rule x", "refused word"), ("fill 2", "too many, 2 made"), ("rule a^2", "ok"))
        self.assert_says(one, ("fill 9", "3 rooms, 3 made"))
        self.assert_says(other, ("paper", "no table"), ("fill 9", "2 rooms, 2 made"), ("way 1", "a"))
        self.assert_says(one, ("way 1", "x"), ("turn x", "(0 1 2)"), ("rule x", "ok"), ("way 0", "no table"))
        self.assert_says(other, ("turn a", "(0 1)"), ("part a", "ok"), ("fill 9", "1 rooms, 1 made"))
        self.assert_says(one, ("fill 9", "1 rooms, 1 made"))
        self.assert_says(Desk(), ("fill 1", "too many, 1 made"), ("paper", "no table"))


if __name__ == "__main__":
    unittest.main()
