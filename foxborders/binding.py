"""What binds: how much borders may grow or be lessened with the least width staying as it is, and papers for it."""

from foxborders.changes import shrunk
from foxborders.land import is_number, outer_border, outer_borders, with_length
from foxborders.plans import judge_plan, lots_of, width
from foxborders.verdicts import best_plan, is_below, judge_paper, least_width, told_for


def profile(land, e, many):
    """The tuple of the least widths of the land with the lengths from 1 to many for border e."""
    return tuple([least_width(with_length(land, e, m)) for m in range(1, many + 1)])


def _longest_from(land, e, k, least, most):
    """The greatest length of border e, up to most, with a plan of a width below k; with the least one there is such."""
    # The least width never falls as a border grows.
    while least < most:
        middle = (least + most + 1) // 2
        if is_below(with_length(land, e, middle), k):
            least = middle
        else:
            most = middle - 1
    return least


def longest(land, e, k):
    """The greatest length of border e with a plan of a width below k, None if there is none."""
    if not is_below(with_length(land, e, 1), k):
        return None
    # A border as long as k is too long for each of its shires.
    return _longest_from(land, e, k, 1, k - 1)


def _top_of(land, e, least):
    """What the least width is above the greater outer border of the two shires of border e."""
    a, b = land[1][e]
    return least - max(outer_border(land, (a,)), outer_border(land, (b,)))


def _room(land, e, least):
    """The room of border e, by the least width of the land."""
    length = land[3][e]
    return _longest_from(land, e, least + 1, length, length + _top_of(land, e, least)) - length


def room_of(land, e):
    """The greatest number by which border e may grow with the least width staying."""
    return _room(land, e, least_width(land))


def rooms(land):
    """The tuple of the rooms of all borders."""
    least = least_width(land)
    return tuple([_room(land, e, least) for e in range(len(land[1]))])


def binding(land):
    """The ascending tuple of the borders without room."""
    return tuple([e for e, room in enumerate(rooms(land)) if room == 0])


def is_full(land):
    """Whether no border has room."""
    return len(binding(land)) == len(land[1])


def _slack(land, e, least):
    """The slack of border e, by the least width of the land."""
    left = shrunk(land, e)
    if left is not None and not is_below(left, least):
        return land[3][e]
    below = longest(land, e, least)
    return land[3][e] - (1 if below is None else below + 1)


def slack_of(land, e):
    """The greatest number by which border e may be lessened with the least width staying."""
    return _slack(land, e, least_width(land))


def slacks(land):
    """The tuple of the slacks of all borders."""
    least = least_width(land)
    return tuple([_slack(land, e, least) for e in range(len(land[1]))])


def holding(land):
    """The ascending tuple of the borders without slack."""
    return tuple([e for e, slack in enumerate(slacks(land)) if slack == 0])


def is_bare(land):
    """Whether no border has slack."""
    return len(holding(land)) == len(land[1])


def filled(land, order):
    """The land in which each border, in this order, grew by the room that it had then."""
    least = least_width(land)
    for e in order:
        land = with_length(land, e, land[3][e] + _room(land, e, least))
    return land


def thinned(land, order):
    """The lengths, by first numbers, and the land when each border, in this order, lost the slack that it had then."""
    least = least_width(land)
    # The first numbers of the borders that are left.
    left = list(range(len(order)))
    for e in order:
        at = left.index(e)
        length = land[3][at] - _slack(land, at, least)
        if length == 0:
            land = shrunk(land, at)
            left.remove(e)
        else:
            land = with_length(land, at, length)
    lengths = dict(zip(left, land[3]))
    return (tuple([lengths.get(e, 0) for e in range(len(order))]), land)


def long_shires(land):
    """The ascending tuple of the shires whose outer border is the least width."""
    least = least_width(land)
    return tuple([s for s, length in enumerate(outer_borders(land)) if length == least])


def gap(land):
    """What the least width is above the greatest outer border of a single shire."""
    return least_width(land) - max(outer_borders(land))


def tight_lots(land, plan):
    """The ascending tuple of the lots of a plan whose outer border is its width."""
    greatest = width(land, plan)
    return tuple([lot for lot in lots_of(plan) if outer_border(land, lot) == greatest])


def plan_rooms(land, plan):
    """The tuple with, for each border, the least that a plan's width is above a lot with just one of its shires."""
    lots = lots_of(plan)
    outer = [outer_border(land, lot) for lot in lots]
    greatest = max(outer)
    found = []
    for a, b in land[1]:
        crossed = [length for lot, length in zip(lots, outer) if (a in lot) != (b in lot)]
        found.append(greatest - max(crossed))
    return tuple(found)


def _longer(land, e, more):
    """The land in which border e is longer by a number."""
    return with_length(land, e, land[3][e] + more)


def room_paper(land, e):
    """The least width, the room of border e, and a plan and two papers that show that both are right."""
    least = least_width(land)
    room = _room(land, e, least)
    plan = best_plan(_longer(land, e, room))
    return (least, room, plan, told_for(land, least), told_for(_longer(land, e, room + 1), least + 1))


def _has_form(value):
    """Whether it is a tuple of five, with integers for the least width and the room ahead."""
    if not isinstance(value, tuple) or len(value) != 5:
        return False
    return is_number(value[0]) and is_number(value[1]) and value[0] >= 1 and value[1] >= 0


def judge_room(land, e, value):
    """None for a room paper of border e, else its first fault."""
    if not _has_form(value):
        return ("form",)
    least, room, plan, low, high = value
    longer = _longer(land, e, room)
    fault = judge_plan(longer, least + 1, plan)
    if fault is not None:
        return ("plan", fault)
    fault = judge_paper(land, least, low)
    if fault is not None:
        return ("low", fault)
    fault = judge_paper(_longer(land, e, room + 1), least + 1, high)
    return ("high", fault) if fault is not None else None
