"""The desk: rows of text are said to it, and it answers each with a text."""

from cosetyard.errors import NoOrder, NoWord, TooLong, TooMany
from cosetyard.filling import fill
from cosetyard.inner import inner_letters, inner_rules, inner_words
from cosetyard.orders import order_by
from cosetyard.texts import is_number, read, read_list, shown
from cosetyard.turnings import parted, rings, times, turning
from cosetyard.ways import least_ways

WITH_REST = ("letters", "rule", "part", "order", "fill", "way", "turn", "times", "same", "inner", "paper")
ALONE = ("inner", "paper")
OF_A_TABLE = ("way", "turn", "times", "same", "inner", "paper")
MOST_NAMES = 4
MOST_ROOMS = 400


class Desk:
    def __init__(self):
        self.begin_anew("a")

    def begin_anew(self, names):
        self.names = names
        self.rules = []
        self.part = []
        self.order = "rooms"
        self.put_away()

    def put_away(self):
        self.table = None
        self.rows = []

    def say(self, row):
        parts = row.partition(" ")
        word = parts[0]
        alone = parts[1] == ""
        if word not in (ALONE if alone else WITH_REST):
            return "refused row"
        if word in OF_A_TABLE and self.table is None:
            return "no table"
        if alone:
            return self.answer_alone(word)
        try:
            return self.answer(word, parts[2])
        except NoWord:
            return "refused word"
        except TooLong:
            return "refused long"
        except NoOrder:
            return "refused order"

    def answer_alone(self, word):
        if word == "inner":
            letters = len(inner_letters(self.table))
            rules = len(inner_rules(self.table, self.rules))
            return f"{letters} letters, {rules} rules"
        rows = len(self.rows)
        return f"{rows} rows"

    def answer(self, word, rest):
        if word == "letters":
            return self.take_letters(rest)
        if word == "rule":
            return self.take_rules(rest)
        if word == "part":
            return self.take_part(rest)
        if word == "order":
            return self.take_order(rest)
        if word == "fill":
            return self.take_limit(rest)
        if word == "turn":
            return shown_rings(rings(turning(self.table, read(self.names, rest))))
        if word == "times":
            return str(times(turning(self.table, read(self.names, rest))))
        if word == "same":
            return self.compare(rest)
        return self.look_up(word, rest)

    def take_letters(self, rest):
        if not are_names(rest):
            return "refused letters"
        self.begin_anew(rest)
        return "ok"

    def take_rules(self, rest):
        self.rules = self.rules + read_list(self.names, rest)
        self.put_away()
        return "ok"

    def take_part(self, rest):
        self.part = self.part + read_list(self.names, rest)
        self.put_away()
        return "ok"

    def take_order(self, rest):
        # Only asked whether there is such an order.
        order_by(rest)
        self.order = rest
        self.put_away()
        return "ok"

    def take_limit(self, rest):
        limit = number_of(rest, 1, MOST_ROOMS)
        if limit is None:
            return "refused number"
        self.put_away()
        try:
            filled = fill(len(self.names), self.rules, self.part, limit, self.order)
        except TooMany as error:
            made = error.made
            return f"too many, {made} made"
        self.table = filled[0]
        self.rows = filled[1]
        rooms = len(self.table)
        made = 1 + len([row for row in self.rows if row[0] == "new"])
        return f"{rooms} rooms, {made} made"

    def compare(self, rest):
        words = read_list(self.names, rest)
        if len(words) != 2:
            return "refused word"
        room = parted(self.table, words[0], words[1])
        if room is None:
            return "same"
        return f"apart at {room}"

    def look_up(self, word, rest):
        if word == "paper":
            place = number_of(rest, 0, len(self.rows) - 1)
            return "refused number" if place is None else shown_row(self.names, self.rows[place])
        # Rooms are told from nought, inner letters from 1.
        least = 0 if word == "way" else 1
        words = least_ways(self.table) if word == "way" else inner_words(self.table)
        number = number_of(rest, least, least + len(words) - 1)
        return "refused number" if number is None else shown(self.names, words[number - least])


def are_names(text):
    if not 1 <= len(text) <= MOST_NAMES or len(set(text)) != len(text):
        return False
    return all(["a" <= sign <= "z" for sign in text])


def number_of(text, least, most):
    if not is_number(text):
        return None
    number = int(text)
    return number if least <= number <= most else None


def shown_rings(found):
    return " ".join([shown_ring(ring) for ring in found])


def shown_ring(ring):
    rooms = with_blanks(ring)
    return f"({rooms})"


def with_blanks(rooms):
    return " ".join([str(room) for room in rooms])


def shown_row(names, row):
    kind = row[0]
    if kind == "rule":
        which = row[1]
        path = with_blanks(row[2])
        at = row[3]
        return f"rule {which} at {at}: {path}"
    room = row[1]
    step = shown(names, (row[2],))
    rest = with_blanks(row[3:])
    return f"{kind} {room} {step} {rest}"
