"""Lands, plans, lots and tables as texts, and these read again.

A reader goes through its text from left to right and holds the place of the next sign. It goes on only while what
it has read is the beginning of some text that can be read; so the place at which it stops is the one that BadText
tells.
"""

from foxborders.errors import BadText

_DIGITS = "0123456789"
_MOST_DIGITS = 9


def want_text(value):
    """Stops at what is no text."""
    if not isinstance(value, str):
        raise BadText(0)


def want_end(text, at):
    """Stops at a sign where the text has to be over."""
    if at < len(text):
        raise BadText(at)


def _agreeing(text, at, word):
    """How many signs of word stand in text from place at on."""
    many = 0
    while many < len(word) and text[at + many:at + many + 1] == word[many]:
        many += 1
    return many


def one_of(text, at, words):
    """The one of some words that stands at a place, and the place behind it; no word begins another one."""
    many = [_agreeing(text, at, word) for word in words]
    for word, agreeing in zip(words, many):
        if agreeing == len(word):
            return word, at + agreeing
    raise BadText(at + max(many))


def past(text, at, word):
    """The place behind a word that has to stand at a place."""
    return one_of(text, at, (word,))[1]


def integer(text, at, most):
    """The integer, of so many digits at most, that stands at a place, and the place behind it."""
    if text[at:at + 1] == "0":
        return 0, at + 1
    behind = at
    while behind < len(text) and behind - at < most and text[behind] in _DIGITS:
        behind += 1
    if behind == at:
        raise BadText(at)
    return int(text[at:behind]), behind


def _integer(text, at):
    """The integer that stands at a place in the texts of this file, and the place behind it."""
    return integer(text, at, _MOST_DIGITS)


def _numbers(text, at):
    """The tuple of the numbers that stand at a place, and the place behind them."""
    if text[at:at + 1] == "-":
        return (), at + 1
    number, at = _integer(text, at)
    numbers = [number]
    while text[at:at + 1] == " ":
        number, at = _integer(text, at + 1)
        numbers.append(number)
    return tuple(numbers), at


def _numbers_text(numbers):
    """Some numbers as they are written in one line."""
    return " ".join([str(number) for number in numbers]) if numbers else "-"


def land_text(land):
    """The text of a land."""
    n, borders, turns, lengths = land
    lines = [f"shires {n}"]
    lines.extend([f"border {a} {b} {length}" for (a, b), length in zip(borders, lengths)])
    lines.extend([f"turn {_numbers_text(turn)}" for turn in turns])
    return "\n".join(lines)


def _border(text, at):
    """The two shires and the length that stand at a place, and the place behind them."""
    a, at = _integer(text, at)
    b, at = _integer(text, past(text, at, " "))
    length, at = _integer(text, past(text, at, " "))
    return a, b, length, at


def read_land(text):
    """The tuple (n, borders, turns, lengths) that a text tells."""
    want_text(text)
    n, at = _integer(text, past(text, 0, "shires "))
    borders = []
    turns = []
    lengths = []
    words = ("\nborder ", "\nturn ")
    while at < len(text):
        word, at = one_of(text, at, words)
        if word == "\nturn ":
            turn, at = _numbers(text, at)
            turns.append(turn)
            # No border comes behind a turn.
            words = ("\nturn ",)
        else:
            a, b, length, at = _border(text, at)
            borders.append((a, b))
            lengths.append(length)
    return (n, tuple(borders), tuple(turns), tuple(lengths))


def plan_text(plan):
    """The text of a plan."""
    parts = []
    # What is still to be written, the next one last: no recursion, as plans may be deep.
    todo = [plan]
    while todo:
        part = todo.pop()
        if isinstance(part, tuple):
            one, other = part
            todo.extend([")", other, " ", one, "("])
        else:
            parts.append(str(part))
    return "plan " + "".join(parts)


def read_plan(text):
    """The plan that a text tells."""
    want_text(text)
    at = past(text, 0, "plan ")
    # For each open pair what is read of it: nothing yet, or its first. No recursion, as plans may be deep; below all
    # pairs stands one that is never filled, so that there is always a last one.
    pairs = [[]]
    while True:
        while text[at:at + 1] == "(":
            pairs.append([])
            at += 1
        plan, at = _integer(text, at)
        while pairs[-1]:
            at = past(text, at, ")")
            plan = (pairs.pop()[0], plan)
        if len(pairs) == 1:
            want_end(text, at)
            return plan
        at = past(text, at, " ")
        pairs[-1].append(plan)


def lot_text(numbers):
    """The text of a lot of numbers."""
    return f"lot {_numbers_text(numbers)}"


def read_lot(text):
    """The tuple of numbers that a text tells."""
    want_text(text)
    numbers, at = _numbers(text, past(text, 0, "lot "))
    want_end(text, at)
    return numbers


def table_text(table):
    """The text of a table."""
    at_corners, along_borders = table
    lines = ["table"]
    lines.extend([f"at {_numbers_text(numbers)}" for numbers in at_corners])
    lines.extend([f"along {_numbers_text(numbers)}" for numbers in along_borders])
    return "\n".join(lines)


def read_table(text):
    """The pair (at, along) that a text tells."""
    want_text(text)
    at = past(text, 0, "table")
    at_corners = []
    along_borders = []
    words = ("\nat ", "\nalong ")
    while at < len(text):
        word, at = one_of(text, at, words)
        numbers, at = _numbers(text, at)
        if word == "\nalong ":
            along_borders.append(numbers)
            # No corner comes behind a border.
            words = ("\nalong ",)
        else:
            at_corners.append(numbers)
    return (tuple(at_corners), tuple(along_borders))
