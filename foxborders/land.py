"""Lands: shires, the borders between them, their turns and lengths, and the corners where borders meet."""


def is_number(value):
    """Whether it is an integer, which True and False are not."""
    return isinstance(value, int) and not isinstance(value, bool)


def begin_of(land, side):
    """The shire in which a side begins."""
    e, w = side
    return land[1][e][w]


def end_of(land, side):
    """The shire in which a side ends."""
    e, w = side
    return land[1][e][1 - w]


def back_of(side):
    """The other side of the same border."""
    e, w = side
    return (e, 1 - w)


def _side_from(land, e, shire):
    """The side of border e that begins in shire, one of its two."""
    return (e, land[1][e].index(shire))


def borders_at(land, shire):
    """The ascending tuple of a shire's borders."""
    return tuple(sorted(land[2][shire]))


def neighbours(land, shire):
    """The ascending tuple of the other shires to which a shire's borders lead."""
    return tuple(sorted({end_of(land, _side_from(land, e, shire)) for e in land[2][shire]}))


def next_side(land, side):
    """The side behind this one, round the corner on its left."""
    shire = end_of(land, side)
    turn = land[2][shire]
    # Place -1 is the last one, which stands before the first in a turn.
    return _side_from(land, turn[turn.index(side[0]) - 1], shire)


def corner_of(land, side):
    """The sides of the round of the corner on the left of a side, begun with the least."""
    sides = [side]
    behind = next_side(land, side)
    while behind != side:
        sides.append(behind)
        behind = next_side(land, behind)
    least = sides.index(min(sides))
    return tuple(sides[least:] + sides[:least])


def corners(land):
    """The ascending tuple of the rounds of all corners."""
    rounds = []
    seen = {}
    # By ascending sides each round is met first at its least side, so the rounds ascend too.
    for side in [(e, w) for e in range(len(land[1])) for w in (0, 1)]:
        if side not in seen:
            sides = corner_of(land, side)
            rounds.append(sides)
            for gone in sides:
                seen[gone] = True
    return tuple(rounds)


def _corner_numbers(land):
    """The number of the corner of each side."""
    return {side: c for c, sides in enumerate(corners(land)) for side in sides}


def corner_number(land, side):
    """The number of the corner on the left of a side."""
    return _corner_numbers(land)[side]


def all_ends(land):
    """The tuple, border by border, of the pairs of the numbers of the corners at both ends."""
    numbers = _corner_numbers(land)
    return tuple([(numbers[(e, 0)], numbers[(e, 1)]) for e in range(len(land[1]))])


def ends(land, e):
    """The pair of the numbers of the corners at both ends of border e."""
    return all_ends(land)[e]


def corner_count(land):
    """How many corners a right land has (Euler)."""
    return 2 - land[0] + len(land[1])


def shires_at(land, c):
    """The ascending tuple of the shires that lie about corner number c."""
    return tuple(sorted({begin_of(land, side) for side in corners(land)[c]}))


def _has_form(value):
    """Whether it is a tuple (n, borders, turns, lengths) by its kinds and its numbers of members."""
    if not isinstance(value, tuple) or len(value) != 4:
        return False
    n, borders, turns, lengths = value
    if not is_number(n) or n < 2 or not isinstance(borders, tuple) or borders == ():
        return False
    if not isinstance(turns, tuple) or not isinstance(lengths, tuple):
        return False
    return len(turns) == n and len(lengths) == len(borders)


def _is_border(n, pair):
    """Whether it is a pair of shires, of n, the lesser one first."""
    if not isinstance(pair, tuple) or len(pair) != 2:
        return False
    a, b = pair
    return is_number(a) and is_number(b) and 0 <= a < b < n


def _is_turn(turn, numbers):
    """Whether it is a tuple of just these ascending numbers, each once, in any sequence."""
    # Sorting waits until all are known to be integers: other values need have no order.
    return isinstance(turn, tuple) and all([is_number(e) for e in turn]) and sorted(turn) == numbers


def _borders_by_shire(n, borders):
    """The list with, for each shire, the ascending list of the numbers of its borders."""
    numbers = [[] for _ in range(n)]
    for e, (a, b) in enumerate(borders):
        numbers[a].append(e)
        numbers[b].append(e)
    return numbers


def _in_one_piece(land):
    """Whether borders lead from shire 0 to each other one."""
    reached = {0: True}
    todo = [0]
    while todo:
        here = todo.pop()
        for shire in neighbours(land, here):
            if shire not in reached:
                reached[shire] = True
                todo.append(shire)
    return len(reached) == land[0]


def judge_land(value):
    """None for a right land, else its first fault."""
    if not _has_form(value):
        return ("form",)
    n, borders, turns, lengths = value
    for e, pair in enumerate(borders):
        if not _is_border(n, pair):
            return ("border", e)
    numbers = _borders_by_shire(n, borders)
    for s, turn in enumerate(turns):
        if not _is_turn(turn, numbers[s]):
            return ("turn", s)
    for e, length in enumerate(lengths):
        if not is_number(length) or length < 1:
            return ("length", e)
    if not _in_one_piece(value):
        return ("pieces",)
    many = len(corners(value))
    if n - len(borders) + many != 2:
        return ("euler", many)
    return None


def is_land(value):
    """Whether it is a right land."""
    return judge_land(value) is None


def cut_borders(land, lot):
    """The ascending tuple of the borders with just one of their shires in lot."""
    return tuple([e for e, (a, b) in enumerate(land[1]) if (a in lot) != (b in lot)])


def outer_border(land, lot):
    """The lengths of the borders between a lot and the rest, together."""
    return sum([land[3][e] for e in cut_borders(land, lot)])


def outer_borders(land):
    """The tuple of the outer borders of the single shires."""
    return tuple([outer_border(land, (s,)) for s in range(land[0])])


def longest_shires(land):
    """The ascending tuple of the shires with the greatest outer border of a single one."""
    lengths = outer_borders(land)
    greatest = max(lengths)
    return tuple([s for s, length in enumerate(lengths) if length == greatest])


def between(land, s, t):
    """The lengths of the borders between two unlike shires, together."""
    pair = (min(s, t), max(s, t))
    return sum([length for border, length in zip(land[1], land[3]) if border == pair])


def whole_length(land):
    """The lengths of all borders, together."""
    return sum(land[3])


def _same_turn(one, other):
    """Whether two turns of the same borders are one, begun anywhere."""
    begun = other.index(one[0])
    return one == other[begun:] + other[:begun]


def same_land(one, other):
    """Whether two lands are alike but for where their turns begin."""
    if one[0] != other[0] or one[1] != other[1] or one[3] != other[3]:
        return False
    return all([_same_turn(turn, like) for turn, like in zip(one[2], other[2])])


def mirrored_land(land):
    """The land with all turns read backwards."""
    n, borders, turns, lengths = land
    return (n, borders, tuple([turn[::-1] for turn in turns]), lengths)


def renamed_land(land, names):
    """The land in which shire s is called names[s]."""
    n, borders, turns, lengths = land
    pairs = [(min(names[a], names[b]), max(names[a], names[b])) for a, b in borders]
    return (n, tuple(pairs), tuple([turns[names.index(s)] for s in range(n)]), lengths)


def renumbered_land(land, order):
    """The land in which border number order[k] has the number k."""
    n, borders, turns, lengths = land
    places = {e: k for k, e in enumerate(order)}
    turned = [tuple([places[e] for e in turn]) for turn in turns]
    return (n, tuple([borders[e] for e in order]), tuple(turned), tuple([lengths[e] for e in order]))


def with_length(land, e, m):
    """The land with the length m for border e."""
    n, borders, turns, lengths = land
    return (n, borders, turns, lengths[:e] + (m,) + lengths[e + 1:])


def times_land(land, m):
    """The land with all lengths m times as great."""
    n, borders, turns, lengths = land
    return (n, borders, turns, tuple([length * m for length in lengths]))
