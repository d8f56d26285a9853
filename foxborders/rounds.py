"""Steps, walks and rounds along borders; which borders are noisy for one another; pieces and ways of the fox."""

from heapq import heappop, heappush

from foxborders.land import all_ends, begin_of, corner_count, end_of, is_number
from foxborders.masks import pieces_over


def step_from(land, step):
    """The number of the corner at which a step begins."""
    e, w = step
    return all_ends(land)[e][w]


def step_to(land, step):
    """The number of the corner at which a step ends."""
    e, w = step
    return all_ends(land)[e][1 - w]


def length_of(land, steps):
    """The sum of the lengths of the borders of some steps, each as often as it is gone."""
    return sum([land[3][e] for e, _ in steps])


def _steps_by_corner(land):
    """The list with, for each corner, the list of triples of a step from there, its length, and where it ends."""
    steps = [[] for _ in range(corner_count(land))]
    for e, (c, d) in enumerate(all_ends(land)):
        steps[c].append(((e, 0), land[3][e], d))
        steps[d].append(((e, 1), land[3][e], c))
    return steps


def _from_corner(steps, c):
    """From corner c on, for each corner: the least length of a walk to it, and the last step of one, () for c."""
    lengths = [None for _ in steps]
    last = [None for _ in steps]
    queue = [(0, c, ())]
    while queue:
        length, here, step = heappop(queue)
        if lengths[here] is None:
            lengths[here] = length
            last[here] = step
            for behind, more, there in steps[here]:
                heappush(queue, (length + more, there, behind))
    return lengths, last


def far(land, c, d):
    """The least length of a walk between two corners."""
    lengths, _ = _from_corner(_steps_by_corner(land), c)
    return lengths[d]


def all_far(land):
    """The tuple, corner by corner, of the tuples of the least lengths of walks to all corners."""
    steps = _steps_by_corner(land)
    return tuple([tuple(_from_corner(steps, c)[0]) for c in range(len(steps))])


def walk_of(land, c, d):
    """A walk of the least length from corner c to corner d."""
    told = all_ends(land)
    _, last = _from_corner(_steps_by_corner(land), c)
    walk = []
    while d != c:
        e, w = last[d]
        walk.append((e, w))
        d = told[e][w]
    return tuple(walk[::-1])


def _is_side(land, value):
    """Whether it is a pair (e, w): a side, or a step, of a border of the land."""
    if not isinstance(value, tuple) or len(value) != 2:
        return False
    e, w = value
    return is_number(e) and is_number(w) and 0 <= e < len(land[1]) and 0 <= w <= 1


def _are_sides(land, value):
    """Whether it is a tuple of sides, or steps, of the land."""
    return isinstance(value, tuple) and all([_is_side(land, part) for part in value])


def judge_walk(land, c, d, value):
    """None for a shortest walk from corner c to corner d, else its first fault."""
    if not _are_sides(land, value):
        return ("form",)
    told = all_ends(land)
    here = c
    for i, (e, w) in enumerate(value):
        if told[e][w] != here:
            return ("step", i)
        here = told[e][1 - w]
    if here != d:
        return ("end", here)
    length = length_of(land, value)
    return ("long", length) if length > far(land, c, d) else None


def _rounds_by(land, told, lengths, e):
    """The tuple of the least lengths of rounds through border e and each border, by the ends of all borders.

    lengths has at the corners of e those to all corners. What stands at e itself means nothing.
    """
    a, b = told[e]
    both = [land[3][e] + length for length in land[3]]
    ways = [min(lengths[a][c] + lengths[b][d], lengths[a][d] + lengths[b][c]) for c, d in told]
    return tuple([borders + rest for borders, rest in zip(both, ways)])


def all_rounds(land):
    """The tuple, border by border, of the tuples of the least lengths of rounds through it and each other one.

    What stands there for the border itself means nothing.
    """
    told = all_ends(land)
    lengths = all_far(land)
    return tuple([_rounds_by(land, told, lengths, e) for e in range(len(told))])


def _rounds_through(land, e):
    """The one of the tuples of all_rounds that is told for border e."""
    told = all_ends(land)
    steps = _steps_by_corner(land)
    return _rounds_by(land, told, {c: _from_corner(steps, c)[0] for c in told[e]}, e)


def round_of(land, e, f):
    """The least length of a round through two unlike borders."""
    return _rounds_through(land, e)[f]


def round_shown(land, e, f):
    """A round of the least length through two unlike borders."""
    told = all_ends(land)
    found = []
    for w in (0, 1):
        # Along e from its first corner to its second one, and along f either way.
        there = walk_of(land, told[e][1], told[f][w])
        back = walk_of(land, told[f][1 - w], told[e][0])
        found.append(((e, 0),) + there + ((f, w),) + back)
    return min(found, key=lambda steps: length_of(land, steps))


def judge_round(land, e, f, value):
    """None for a shortest round through borders e and f, else its first fault."""
    if not _are_sides(land, value) or value == ():
        return ("form",)
    told = all_ends(land)
    for i, (g, w) in enumerate(value):
        # The last step, number -1, stands ahead of step 0.
        ahead, way = value[i - 1]
        if told[g][w] != told[ahead][1 - way]:
            return ("step", i)
    for g in (e, f):
        if (g, 0) not in value and (g, 1) not in value:
            return ("lacks", g)
    length = length_of(land, value)
    return ("long", length) if length > round_of(land, e, f) else None


def is_noisy(land, e, f, k):
    """Whether border f is noisy for border e at k."""
    return e != f and round_of(land, e, f) < k


def noisy_by(lengths, e, k):
    """The ascending tuple of the borders that are noisy for border e at k, by the lengths of rounds through it."""
    return tuple([f for f, length in enumerate(lengths) if f != e and length < k])


def noisy(land, e, k):
    """The ascending tuple of the borders that are noisy for border e at k."""
    return noisy_by(_rounds_through(land, e), e, k)


def all_noisy(land, k):
    """The tuple, border by border, of the borders that are noisy for it at k."""
    return tuple([noisy_by(lengths, e, k) for e, lengths in enumerate(all_rounds(land))])


def quiet_pairs(land, told):
    """The list of the pairs of shires of the borders that are not among some noisy ones."""
    return [pair for f, pair in enumerate(land[1]) if f not in told]


def _pieces_by(land, e, told):
    """The pieces for border e, of which some borders are noisy for it."""
    others = [s for s in range(land[0]) if s not in land[1][e]]
    return pieces_over(land[0], quiet_pairs(land, told), others)


def pieces(land, e, k):
    """The ascending tuple of the pieces for (e, k)."""
    return _pieces_by(land, e, noisy(land, e, k))


def all_pieces(land, k):
    """The tuple, border by border, of the pieces at k."""
    return tuple([_pieces_by(land, e, told) for e, told in enumerate(all_noisy(land, k))])


def piece_among(pieces_told, s):
    """The one of some pieces with a shire, None if it is in none."""
    for piece in pieces_told:
        if s in piece:
            return piece
    return None


def piece_of(land, e, k, s):
    """The piece for (e, k) with a shire, None if it lies at e."""
    return piece_among(pieces(land, e, k), s)


def _sides_by_shire(land, e, k):
    """The list with, for each shire, the sides from there that the fox can cross while the bell is along e."""
    told = noisy(land, e, k)
    sides = [[] for _ in range(land[0])]
    for f, pair in enumerate(land[1]):
        if f not in told and pair[0] not in land[1][e] and pair[1] not in land[1][e]:
            for w in (0, 1):
                sides[pair[w]].append((f, w))
    return sides


def way_of(land, e, k, s, t):
    """A way for (e, k) from shire s to shire t with fewest sides, None if there is none."""
    sides = _sides_by_shire(land, e, k)
    ways = {s: ()}
    todo = [s]
    # Shires are looked at in the sequence in which they are reached, so with fewest sides first.
    at = 0
    while at < len(todo):
        here = todo[at]
        at += 1
        for side in sides[here]:
            there = end_of(land, side)
            if there not in ways:
                ways[there] = ways[here] + (side,)
                todo.append(there)
    return ways.get(t)


def judge_way(land, e, k, s, t, value):
    """None for a way for (e, k) from shire s to shire t, else its first fault."""
    if not _are_sides(land, value):
        return ("form",)
    told = noisy(land, e, k)
    here = s
    for i, side in enumerate(value):
        if begin_of(land, side) != here:
            return ("side", i)
        if side[0] in told:
            return ("noisy", i)
        here = end_of(land, side)
        if here in land[1][e]:
            return ("lies", i)
    return ("end", here) if here != t else None
