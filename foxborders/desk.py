"""A desk: a house to which one speaks in lines, and which answers in texts."""

from foxborders.chase import bell_moves
from foxborders.errors import BadDeed, BadText, NothingDone
from foxborders.house import House
from foxborders.land import corner_count
from foxborders.scripts import log_text, read_deed
from foxborders.texts import land_text, lot_text, plan_text, read_lot, table_text

_WHAT = "what"
_REFUSED = "refused"


def _undo_said(house):
    """The answer to undo."""
    try:
        return str(house.undo())
    except NothingDone:
        return _REFUSED


def _redo_said(house):
    """The answer to redo."""
    try:
        return str(house.redo())
    except NothingDone:
        return _REFUSED


def _settle_said(house):
    """The answer to settle."""
    return str(house.settle())


def _land_said(house):
    """The answer to land."""
    return land_text(house.land())


def _width_said(house):
    """The answer to width."""
    return str(house.width())


def _plan_said(house):
    """The answer to plan."""
    return plan_text(house.plan())


def _paper_said(house):
    """The answer to paper."""
    word, told = house.paper()
    return f"shire {told}" if word == "shire" else table_text(told)


def _joins_said(house):
    """The answer to joins."""
    return lot_text(house.joins())


def _log_said(house):
    """The answer to log."""
    deeds = house.deeds()
    return log_text(deeds) if deeds else "nothing"


_SAID = {
    "undo": _undo_said,
    "redo": _redo_said,
    "settle": _settle_said,
    "land": _land_said,
    "width": _width_said,
    "plan": _plan_said,
    "paper": _paper_said,
    "joins": _joins_said,
    "log": _log_said,
}


def _deed_said(house, line):
    """The answer to what has to be the text of a deed."""
    try:
        return str(house.do(read_deed(line)))
    except (BadText, BadDeed):
        return _WHAT


def _table_said(house, numbers):
    """The answer to table with numbers."""
    if len(numbers) != 1 or numbers[0] < 1:
        return _WHAT
    table = house.table(numbers[0])
    return table_text(table) if table is not None else "none"


def _is_position(land, k, c, s):
    """Whether corner c and shire s are there, and k is from 1 on."""
    return k >= 1 and c < corner_count(land) and s < land[0]


def _bell_said(house, numbers):
    """The answer to bell with numbers."""
    if len(numbers) != 3:
        return _WHAT
    k, c, s = numbers
    if not _is_position(house.land(), k, c, s):
        return _WHAT
    e = house.bell(k, c, s)
    return str(e) if e is not None else "none"


def _fox_said(house, numbers):
    """The answer to fox with numbers."""
    if len(numbers) != 4:
        return _WHAT
    k, c, s, e = numbers
    if not _is_position(house.land(), k, c, s) or e not in bell_moves(house.land(), c):
        return _WHAT
    t = house.fox(k, c, s, e)
    return str(t) if t is not None else "caught"


_SAID_OF = {
    "table": _table_said,
    "bell": _bell_said,
    "fox": _fox_said,
}


def _asked(house, line):
    """The answer to a line that is no word alone."""
    word, _, rest = line.partition(" ")
    if word not in _SAID_OF:
        return _deed_said(house, line)
    try:
        # The numbers stand as those of a lot do.
        numbers = read_lot("lot " + rest)
    except BadText:
        return _WHAT
    answer = _SAID_OF[word]
    return answer(house, numbers)


class Desk:
    """A desk with a house of a land."""

    def __init__(self, land):
        self._house = House(land)

    def house(self):
        """The house itself."""
        return self._house

    def say(self, line):
        """Does what a line tells, and returns the answer."""
        if not isinstance(line, str):
            return _WHAT
        if line not in _SAID:
            return _asked(self._house, line)
        answer = _SAID[line]
        return answer(self._house)
