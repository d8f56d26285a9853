"""What part 8 tells of lands changed, told in another way than the package does it: by turns of border names."""

from tests.lands import count_corners
from tests.plans_oracle import cut
from tests.rounds_oracle import classes


def is_right(land):
    """Whether a land whose kinds are right has right turns, one piece, and Euler's sum."""
    n, borders, turns, lengths = land
    mine = all(sorted(turn) == [e for e, pair in enumerate(borders) if s in pair] for s, turn in enumerate(turns))
    pairs = all(0 <= a < b < n for a, b in borders) and min(lengths) >= 1 and len(lengths) == len(borders)
    return mine and pairs and len(turns) == n and len(classes(range(n), borders)) == 1 and (
        n - len(borders) + count_corners(turns) == 2)


def named(land, names, stay, turns):
    """A land of the borders that stay, of shires by new names, with turns told by the first numbers of borders."""
    n, borders, _, lengths = land
    pairs = tuple(tuple(sorted((names[borders[e][0]], names[borders[e][1]]))) for e in stay)
    turned = tuple(tuple(stay.index(e) for e in turn if e in stay) for turn in turns)
    return (len(turns), pairs, turned, tuple(lengths[e] for e in stay))


def turned_to(turn, e):
    """A turn, round about, from behind e on, without e."""
    twice = list(turn) * 2
    begun = twice.index(e) + 1
    return twice[begun:begun + len(turn) - 1]


def joined_land(land, e):
    n, borders, turns, _ = land
    a, b = borders[e]
    names = [{b: a}.get(s, s) for s in range(n)]
    names = [name - 1 if name > b else name for name in names]
    stay = [f for f in range(len(borders)) if set(borders[f]) != {a, b}]
    told = {}
    for s in range(n):
        told.setdefault(names[s], []).extend(turned_to(turns[s], e) if s in (a, b) else turns[s])
    return named(land, names, stay, [told[s] for s in range(n - 1)])


def shrunk_land(land, e):
    """None where what is left is not in one piece."""
    n, borders, turns, _ = land
    stay = [f for f in range(len(borders)) if f != e]
    if len(classes(range(n), [borders[f] for f in stay])) > 1:
        return None
    return named(land, range(n), stay, turns)


def pieces_of(land, s):
    return classes([t for t in range(land[0]) if t != s], land[1])


def part_land(land, lot):
    stay = [e for e, (a, b) in enumerate(land[1]) if {a, b} <= set(lot)]
    return named(land, {s: lot.index(s) for s in lot}, stay, [land[2][s] for s in lot])


def same_outer_borders(one, other, lots):
    """Whether lots, told as pairs, have the same outer borders in two lands."""
    return all(cut(one, mine) == cut(other, theirs) for mine, theirs in lots)


def all_lots(n):
    return [tuple(s for s in range(n) if bits >> s & 1) for bits in range(1, 2 ** n)]
