"""Lands changed: shires joined, borders shrunk, the contrary land, lands parted, put together, bundled."""

from foxborders.land import all_ends, corners, with_length
from foxborders.masks import pieces_over


def _ascending(a, b):
    """Both as a pair, the lesser one first."""
    return (min(a, b), max(a, b))


def _renumbered(turn, numbers):
    """A turn without the borders that have no new number, by the new numbers of the others."""
    return tuple([numbers[e] for e in turn if e in numbers])


def _numbers_of(stay):
    """The dict with the new number of each border that stays."""
    return {e: number for number, e in enumerate(stay)}


def _behind(turn, e):
    """What stands just behind e in a turn, round about till just ahead of e."""
    place = turn.index(e)
    return turn[place + 1:] + turn[:place]


def joined_shires(land, e):
    """The tuple with, for each shire, its number when the shires of border e are joined."""
    a, b = land[1][e]
    return tuple([a if s == b else s - int(s > b) for s in range(land[0])])


def joined_borders(land, e):
    """The ascending tuple of the borders that stay when the shires of border e are joined."""
    return tuple([f for f, pair in enumerate(land[1]) if pair != land[1][e]])


def joined(land, e):
    """The land in which the shires of border e are one, None if there are these two alone."""
    n, borders, turns, lengths = land
    if n == 2:
        return None
    a, b = borders[e]
    names = joined_shires(land, e)
    stay = joined_borders(land, e)
    numbers = _numbers_of(stay)
    pairs = [_ascending(names[borders[f][0]], names[borders[f][1]]) for f in stay]
    turned = [_behind(turns[a], e) + _behind(turns[b], e) if s == a else turns[s] for s in range(n) if s != b]
    anew = [_renumbered(turn, numbers) for turn in turned]
    return (n - 1, tuple(pairs), tuple(anew), tuple([lengths[f] for f in stay]))


def shrunk(land, e):
    """The land without border e, None if it is not in one piece then."""
    c, d = all_ends(land)[e]
    if c == d:
        return None
    n, borders, turns, lengths = land
    numbers = _numbers_of([f for f in range(len(borders)) if f != e])
    anew = [_renumbered(turn, numbers) for turn in turns]
    return (n, borders[:e] + borders[e + 1:], tuple(anew), lengths[:e] + lengths[e + 1:])


def contrary(land):
    """The land that has the corners for shires, None if some border has one corner at both ends."""
    pairs = [_ascending(c, d) for c, d in all_ends(land)]
    if any([c == d for c, d in pairs]):
        return None
    turns = [tuple([e for e, _ in sides]) for sides in corners(land)]
    return (len(turns), tuple(pairs), tuple(turns), land[3])


def pieces_without(land, s):
    """The ascending tuple of the pieces into which the other shires fall without a shire."""
    return pieces_over(land[0], land[1], [t for t in range(land[0]) if t != s])


def parting_shires(land):
    """The ascending tuple of the shires that part the land."""
    return tuple([s for s in range(land[0]) if len(pieces_without(land, s)) > 1])


def part_of(land, lot):
    """The land of the shires of a lot alone."""
    _, borders, turns, lengths = land
    names = {s: name for name, s in enumerate(lot)}
    stay = [e for e, (a, b) in enumerate(borders) if a in names and b in names]
    numbers = _numbers_of(stay)
    pairs = [(names[borders[e][0]], names[borders[e][1]]) for e in stay]
    anew = [_renumbered(turns[s], numbers) for s in lot]
    return (len(lot), tuple(pairs), tuple(anew), tuple([lengths[e] for e in stay]))


def parted(land, s):
    """The tuple of the pairs of a piece without shire s, with s, and of the land of these alone."""
    lots = [tuple(sorted(piece + (s,))) for piece in pieces_without(land, s)]
    return tuple([(lot, part_of(land, lot)) for lot in lots])


def put_lands(one, s, other, t):
    """The land in which shire s of a land and shire t of another land are one."""
    n = one[0]
    many = len(one[1])
    names = [n + u if u < t else n + u - 1 for u in range(other[0])]
    names[t] = s
    pairs = [_ascending(names[a], names[b]) for a, b in other[1]]
    turns = [tuple([many + e for e in turn]) for turn in other[2]]
    # The turns of the other land go to its shires, that of t to shire s behind what is there.
    first = [turn + turns[t] if shire == s else turn for shire, turn in enumerate(one[2])]
    last = turns[:t] + turns[t + 1:]
    return (n + other[0] - 1, one[1] + tuple(pairs), tuple(first + last), one[3] + other[3])


def has_ring(land):
    """Whether borders close a ring of shires."""
    return len(land[1]) >= land[0]


def _twins(land):
    """The least pair of twins, None if there are none."""
    found = [_ascending(sides[0][0], sides[1][0]) for sides in corners(land) if len(sides) == 2]
    # The two sides of a border that is the land's only one are no twins.
    unlike = [(e, f) for e, f in found if e != f]
    return min(unlike) if unlike else None


def bundled(land):
    """The land in which of twins, as long as there are any, the one shrinks and the other gets its length besides."""
    pair = _twins(land)
    while pair is not None:
        e, f = pair
        length = land[3][e] + land[3][f]
        land = with_length(shrunk(land, f), e, length)
        pair = _twins(land)
    return land
