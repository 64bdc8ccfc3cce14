"""Texts of words: how words and lists of words are read and shown by names of letters."""

from cosetyard.errors import NoWord, TooLong
from cosetyard.words import raised

MOST_STEPS = 200
MOST_FIGURES = 3
FIGURES = "0123456789"


def read(names, text):
    bases = bases_of(names)
    # The whole text is looked through ahead of any length, for NoWord goes ahead of TooLong.
    marks = marks_of(bases, text)
    check_brackets(marks)
    return word_of(bases, marks)


def read_list(names, text):
    if text.strip(" ") == "":
        return []
    return [read(names, part.strip(" ")) for part in text.split(",")]


def shown(names, word):
    if len(word) == 0:
        return "1"
    pieces = []
    at = 0
    while at < len(word):
        end = run_end(word, at)
        pieces.append(shown_run(names, word[at], end - at))
        at = end
    return "".join(pieces)


def shown_list(names, words):
    return ", ".join([shown(names, word) for word in words])


def bases_of(names):
    bases = {"1": ()}
    for number, name in enumerate(names, start=1):
        bases[name] = (number,)
        bases[name.upper()] = (-number,)
    return bases


# Marks are tuples (sign, power). A power is kept by the sign that ends its piece, so that a closing bracket has the
# power of what it closes.
def marks_of(bases, text):
    marks = []
    at = 0
    while at < len(text):
        sign = text[at]
        if sign not in bases and sign != "(" and sign != ")":
            raise NoWord(f"{sign!r} can't stand at place {at}")
        at = at + 1
        end = at
        # No piece ends with an opening bracket, so a power right behind one stands alone.
        if sign != "(":
            end = power_end(text, at)
        marks.append((sign, power_of(text[at:end])))
        at = end
    return marks


def power_end(text, at):
    if not text.startswith("^", at):
        return at
    start = at + 1
    if text.startswith("-", start):
        start = start + 1
    end = start
    while end < len(text) and text[end] in FIGURES:
        end = end + 1
    figures = text[start:end]
    if not is_number(figures):
        raise NoWord(f"{figures!r} is no power")
    return end


def is_number(text):
    if not 1 <= len(text) <= MOST_FIGURES or not all([sign in FIGURES for sign in text]):
        return False
    return text == "0" or not text.startswith("0")


def power_of(written):
    if written == "":
        return 1
    return int(written[1:])


def check_brackets(marks):
    depth = 0
    # The whole text must hold something just as brackets must, so it begins as if behind a bracket.
    ahead = "("
    for mark in marks:
        sign = mark[0]
        if sign == "(":
            depth = depth + 1
        elif sign == ")":
            if depth == 0:
                raise NoWord("a bracket is closed too often")
            if ahead == "(":
                raise NoWord("brackets are empty")
            depth = depth - 1
        ahead = sign
    if depth > 0:
        raise NoWord("a bracket is not closed")
    if ahead == "(":
        raise NoWord("the text is empty")


def word_of(bases, marks):
    # One word for the text itself and one more for each bracket that is not closed yet.
    held = [()]
    for mark in marks:
        sign = mark[0]
        if sign == "(":
            held.append(())
        else:
            base = held.pop() if sign == ")" else bases[sign]
            held.append(with_piece(held.pop(), base, mark[1]))
    return held[0]


def with_piece(word, base, power):
    # Pieces behind this one never make the word shorter, and a single piece is no longer than the word that it ends.
    # Asked ahead of the raising, so that nothing greater is ever built.
    if len(word) + len(base) * abs(power) > MOST_STEPS:
        raise TooLong(f"there are more than {MOST_STEPS} steps")
    return word + raised(base, power)


def run_end(word, at):
    end = at
    while end < len(word) and word[end] == word[at]:
        end = end + 1
    return end


def shown_run(names, step, many):
    name = names[abs(step) - 1]
    letter = name if step > 0 else name.upper()
    if many == 1:
        return letter
    return f"{letter}^{many}"
