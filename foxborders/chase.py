"""The chase: somebody walks along the borders with a bell, and a fox goes through pieces of the land.

told are the ends of all borders, found the pieces for all of them, rows the ranks of all positions: what does not
change while a chase is played out.
"""

from foxborders.land import all_ends, corner_count, is_number
from foxborders.rounds import all_pieces, piece_among, piece_of
from foxborders.tables import all_laps, greatest_table


def _moves(told, c):
    """The ascending tuple of the borders with corner c at an end."""
    return tuple([e for e, pair in enumerate(told) if c in pair])


def bell_moves(land, c):
    """The ascending tuple of the borders that the bell can take at corner c."""
    return _moves(all_ends(land), c)


def fox_moves(land, k, position, e):
    """The ascending tuple of the shires to which the fox can go while the bell is along e, () if it is caught."""
    piece = piece_of(land, e, k, position[1])
    return () if piece is None else piece


def _goes(found, s, e):
    """What fox_moves tells, by the pieces for all borders."""
    piece = piece_among(found[e], s)
    return () if piece is None else piece


def _other_end(told, e, c):
    """The corner at which the bell comes along border e from corner c."""
    one, other = told[e]
    return other if one == c else one


def behind(land, position, e, t):
    """The position when the bell took border e and the fox went to shire t."""
    return (_other_end(all_ends(land), e, position[0]), t)


def ranks(land, k):
    """The tuple, corner by corner, of the tuples of the ranks of all shires, None for those without one.

    A position is given its rank in the round in which its shire falls from the corner when all shires shrink.
    """
    return all_laps(land, k)


def rank_of(land, k, position):
    """The rank of a position, None if it has none."""
    c, s = position
    return ranks(land, k)[c][s]


def _greatest(rows, c, shires):
    """The greatest rank of some shires, not none, at a corner: None if one has None."""
    told = [rows[c][s] for s in shires]
    return None if None in told else max(told)


def _best_border(told, found, rows, position):
    """The least border that the rank of a position comes of, None if it has none."""
    c, s = position
    rank = rows[c][s]
    if rank is None:
        return None
    for e in _moves(told, c):
        shires = _goes(found, s, e)
        # Where the fox is caught nothing is left to do: that is as good as a rank 0.
        last = 0 if shires == () else _greatest(rows, _other_end(told, e, c), shires)
        if last == rank - 1:
            return e
    return None


def bell_move(land, k, position):
    """The least border that the rank of a position comes of, None if it has none."""
    return _best_border(all_ends(land), all_pieces(land, k), ranks(land, k), position)


def _best_shire(told, found, rows, position, e):
    """The least shire with the greatest rank behind, None being the greatest, None if the fox is caught."""
    c, s = position
    shires = _goes(found, s, e)
    if shires == ():
        return None
    row = rows[_other_end(told, e, c)]
    greatest = _greatest(rows, _other_end(told, e, c), shires)
    return [t for t in shires if row[t] == greatest][0]


def fox_move(land, k, position, e):
    """The shire to which the fox goes best when the bell takes border e, None if it is caught."""
    return _best_shire(all_ends(land), all_pieces(land, k), ranks(land, k), position, e)


def _is_place(value, many):
    """Whether it is an integer from 0 to many less 1."""
    return is_number(value) and 0 <= value < many


def _is_step(land, value):
    """Whether it is a pair of a border of the land and a shire of it or None."""
    if not isinstance(value, tuple) or len(value) != 2:
        return False
    e, t = value
    return _is_place(e, len(land[1])) and (t is None or _is_place(t, land[0]))


def _has_form(land, value):
    """Whether it is a pair of a position of the land and a tuple of steps."""
    if not isinstance(value, tuple) or len(value) != 2:
        return False
    position, steps = value
    if not isinstance(position, tuple) or len(position) != 2 or not isinstance(steps, tuple):
        return False
    if not _is_place(position[0], corner_count(land)) or not _is_place(position[1], land[0]):
        return False
    return all([_is_step(land, step) for step in steps])


def judge_chase(land, k, value):
    """None for a chase, else its first fault."""
    if not _has_form(land, value):
        return ("form",)
    told = all_ends(land)
    found = all_pieces(land, k)
    (c, s), steps = value
    for i, (e, t) in enumerate(steps):
        if s is None:
            return ("late", i)
        if e not in _moves(told, c):
            return ("bell", i)
        shires = _goes(found, s, e)
        # None is told just where there is no shire to tell.
        if t not in shires and (t is not None or shires != ()):
            return ("fox", i)
        c = _other_end(told, e, c)
        s = t
    return None


def chase_end(land, chase):
    """The position behind the last step of a chase, None if the fox is caught."""
    told = all_ends(land)
    (c, s), steps = chase
    for e, t in steps:
        c = _other_end(told, e, c)
        s = t
    return None if s is None else (c, s)


def _picked(picks, i, members):
    """The one of some members that pick number i takes, behind the last pick the first one."""
    pick = picks[i] if i < len(picks) else 0
    return members[pick % len(members)]


def best_chase(land, k, position):
    """The chase in which both do best, of a position with a rank."""
    told = all_ends(land)
    found = all_pieces(land, k)
    rows = ranks(land, k)
    c, s = position
    steps = []
    while s is not None:
        e = _best_border(told, found, rows, (c, s))
        s = _best_shire(told, found, rows, (c, s), e)
        c = _other_end(told, e, c)
        steps.append((e, s))
    return (position, tuple(steps))


def hunted(land, k, position, picks):
    """The chase in which the bell does best and the fox goes as picks tell, of a position with a rank."""
    told = all_ends(land)
    found = all_pieces(land, k)
    rows = ranks(land, k)
    c, s = position
    steps = []
    while s is not None:
        e = _best_border(told, found, rows, (c, s))
        shires = _goes(found, s, e)
        s = None if shires == () else _picked(picks, len(steps), shires)
        c = _other_end(told, e, c)
        steps.append((e, s))
    return (position, tuple(steps))


def lived(land, k, position, picks):
    """The chase in which the bell goes as picks tell, one step for each, and the fox does best."""
    told = all_ends(land)
    found = all_pieces(land, k)
    rows = ranks(land, k)
    c, s = position
    steps = []
    while s is not None and len(steps) < len(picks):
        e = _picked(picks, len(steps), _moves(told, c))
        s = _best_shire(told, found, rows, (c, s), e)
        c = _other_end(told, e, c)
        steps.append((e, s))
    return (position, tuple(steps))


def is_won(land, k):
    """Whether all positions have ranks."""
    return all([None not in row for row in ranks(land, k)])


def longest_rank(land, k):
    """The greatest rank that a position has."""
    return max([rank for row in ranks(land, k) for rank in row if rank is not None])


def refuges(land, k):
    """The tuple, corner by corner, of the shires in which a fox is never caught while the bell begins there."""
    table = greatest_table(land, k)
    return ((),) * corner_count(land) if table is None else table[0]


def wins_from(land, k, c):
    """Whether the bell wins from corner c, wherever the fox is."""
    return None not in ranks(land, k)[c]
