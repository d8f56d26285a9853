"""Surveys: lands by numbers, their least widths, words and reports, and lands by their widths."""

from foxborders.land import corner_count, is_number, outer_borders
from foxborders.verdicts import least_width

_LEAST = {"ring": 2, "wheel": 3, "ladder": 3, "row": 2}


def _ring(n):
    """The list of the borders of a ring of n shires: number i leads from shire i to the next one."""
    return [(i, i + 1) for i in range(n - 1)] + [(0, n - 1)]


def _with_lengths(borders, turns):
    """The land with these borders, all of the length 1, and these turns."""
    return (len(turns), tuple(borders), tuple(turns), (1,) * len(borders))


def ring_land(n):
    """The ring of n shires."""
    turns = [(0, n - 1)] + [(i - 1, i) for i in range(1, n)]
    return _with_lengths(_ring(n), turns)


def wheel_land(n):
    """The ring of n shires about one more."""
    turns = [(i, n + i, (i - 1) % n) for i in range(n)]
    return _with_lengths(_ring(n) + [(i, n) for i in range(n)], turns + [tuple(range(n, 2 * n))])


def ladder_land(n):
    """Two rings of n shires, one within the other, with borders from each shire to the one beside it."""
    inner = [(a + n, b + n) for a, b in _ring(n)]
    turns = [(i, 2 * n + i, (i - 1) % n) for i in range(n)]
    turns.extend([(2 * n + i, n + i, n + (i - 1) % n) for i in range(n)])
    return _with_lengths(_ring(n) + inner + [(i, n + i) for i in range(n)], turns)


def board_land(m, n):
    """The shires at the places (x, y), x below m, y below n, with borders between those beside one another."""
    places = [(x, y) for x in range(m) for y in range(n)]
    borders = []
    numbers = {}
    for x, y in places:
        for other in ((x, y + 1), (x + 1, y)):
            if other in places:
                numbers[((x, y), other)] = len(borders)
                borders.append((x * n + y, other[0] * n + other[1]))
    turns = []
    for x, y in places:
        here = (x, y)
        pairs = [(here, (x + 1, y)), (here, (x, y + 1)), ((x - 1, y), here), ((x, y - 1), here)]
        turns.append(tuple([numbers[pair] for pair in pairs if pair in numbers]))
    return _with_lengths(borders, turns)


def _land_by(kind, n):
    """The land of a kind with the number n."""
    if kind == "ring":
        return ring_land(n)
    if kind == "wheel":
        return wheel_land(n)
    return ladder_land(n) if kind == "ladder" else board_land(1, n)


def widths_told(kind, most):
    """The ascending tuple of the pairs of a number, up to most, and of the least width that a kind has with it."""
    return tuple([(n, least_width(_land_by(kind, n))) for n in range(_LEAST[kind], most + 1)])


def _longest(land):
    """The greatest outer border of a single shire."""
    return max(outer_borders(land))


def words(land, most):
    """The tuple of the words that are told for the numbers from 1 to most."""
    shires = min(_longest(land), most)
    tables = min(least_width(land), most) - shires
    return ("shire",) * shires + ("table",) * tables + ("plan",) * (most - shires - tables)


def report(land):
    """How many shires, borders and corners, the greatest outer border, the least width, and what shows the latter."""
    longest = _longest(land)
    least = least_width(land)
    word = "shire" if longest == least else "table"
    return (land[0], len(land[1]), corner_count(land), longest, least, word)


def judge_report(land, value):
    """None for the report of the land, else the first fault."""
    if not isinstance(value, tuple) or len(value) != 6 or not isinstance(value[5], str):
        return ("form",)
    if not all([is_number(member) for member in value[:5]]):
        return ("form",)
    for i, member in enumerate(report(land)):
        if value[i] != member:
            return ("member", i)
    return None


def by_width(lands):
    """The numbers of some lands, ascending by least width, greatest outer border, shires, and number."""
    rows = sorted([(least_width(land), _longest(land), land[0], number) for number, land in enumerate(lands)])
    return tuple([row[3] for row in rows])
