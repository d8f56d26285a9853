"""Lands for the tests, made without the package: some by hand, many grown by a fixed sequence of throws."""


class Dice:
    """Throws that are the same in each run."""

    def __init__(self, seed):
        self.state = seed * 7919 + 12345

    def below(self, n):
        self.state = (self.state * 6364136223846793005 + 1442695040888963407) % 2 ** 64
        return (self.state >> 33) % n

    def pick(self, rows):
        return rows[self.below(len(rows))]

    def shuffled(self, rows):
        rows = list(rows)
        for k in range(len(rows) - 1, 0, -1):
            other = self.below(k + 1)
            rows[k], rows[other] = rows[other], rows[k]
        return rows


def dart_behind(turns, dart):
    """The dart (shire, place in its turn) behind this one, round the corner on its left."""
    shire, place = dart
    e = turns[shire][place]
    for other, turn in enumerate(turns):
        if other != shire and e in turn:
            return other, (list(turn).index(e) - 1) % len(turn)
    raise AssertionError("a border needs two shires")


def darts_round(turns, dart):
    darts = [dart]
    while dart_behind(turns, darts[-1]) != dart:
        darts.append(dart_behind(turns, darts[-1]))
    return darts


def count_corners(turns):
    left = [(shire, place) for shire, turn in enumerate(turns) for place in range(len(turn))]
    many = 0
    while left:
        many += 1
        gone = darts_round(turns, left[0])
        left = [dart for dart in left if dart not in gone]
    return many


def grown_land(seed, shires, borders, most=9):
    """A right land with so many shires and borders, in which all is numbered at random."""
    dice = Dice(seed)
    pairs, turns = [(0, 1)], [[0], [0]]
    todo = dice.shuffled(["shire"] * (shires - 2) + ["border"] * (borders - shires + 1))
    for what in todo:
        darts = [(shire, place) for shire, turn in enumerate(turns) for place in range(len(turn))]
        shire, place = dice.pick(darts)
        e = len(pairs)
        if what == "shire":
            other = len(turns)
            turns.append([e])
        else:
            # A border within one corner parts it in two, so Euler's sum stays as it is.
            others = [dart for dart in darts_round(turns, (shire, place)) if dart[0] != shire]
            other, at = dice.pick(others)
            turns[other].insert(at + 1, e)
        turns[shire].insert(place + 1, e)
        pairs.append((shire, other))
    return _numbered_anew(dice, pairs, turns, most)


def _numbered_anew(dice, pairs, turns, most):
    names = dice.shuffled(range(len(turns)))
    numbers = dice.shuffled(range(len(pairs)))
    new_pairs, new_turns = [None] * len(pairs), [None] * len(turns)
    for e, (a, b) in enumerate(pairs):
        new_pairs[numbers[e]] = tuple(sorted((names[a], names[b])))
    for shire, turn in enumerate(turns):
        begun = dice.below(len(turn))
        new_turns[names[shire]] = tuple(numbers[e] for e in turn[begun:] + turn[:begun])
    lengths = tuple(1 + dice.below(most) for _ in pairs)
    return len(turns), tuple(new_pairs), tuple(new_turns), lengths


def _with_shire(turns, pairs, darts):
    """Turns and pairs with one shire more, within one corner, linked to some of its darts."""
    new = len(turns)
    numbers = {dart: len(pairs) + k for k, dart in enumerate(darts)}
    grown = [[] for _ in turns]
    for shire, turn in enumerate(turns):
        for place, e in enumerate(turn):
            grown[shire].append(e)
            if (shire, place) in numbers:
                grown[shire].append(numbers[(shire, place)])
    pairs = pairs + [(shire, new) for shire, _ in darts]
    mine = [numbers[dart] for dart in darts]
    # One of both ways round is the one that can be drawn.
    for turn in (mine, mine[::-1]):
        if len(grown) + 1 - len(pairs) + count_corners(grown + [turn]) == 2:
            return grown + [turn], pairs
    raise AssertionError("one way can be drawn")


def woven_land(seed, shires, most=1):
    """A right land in which each shire from the fourth on was put into a corner, with links to two or more about it."""
    dice = Dice(seed)
    pairs, turns = [(0, 1), (1, 2), (0, 2)], [[0, 2], [1, 0], [2, 1]]
    while len(turns) < shires:
        shire = dice.below(len(turns))
        darts = darts_round(turns, (shire, dice.below(len(turns[shire]))))
        chosen = dice.shuffled(range(len(darts)))[:2 + dice.below(4)]
        turns, pairs = _with_shire(turns, pairs, [darts[at] for at in sorted(chosen)])
    return _numbered_anew(dice, pairs, turns, most)


def board(rows, columns, lengths=(1,)):
    """A land of shires in rows and columns, each with a border to those beside it."""
    places = [(x, y) for x in range(columns) for y in range(rows)]
    pairs = [(places.index((x, y)), places.index(other)) for x, y in places for other in ((x, y + 1), (x + 1, y))
             if other in places]
    turns = []
    for s, (x, y) in enumerate(places):
        beside = [(x + 1, y), (x, y + 1), (x - 1, y), (x, y - 1)]
        others = [places.index(other) for other in beside if other in places]
        turns.append(tuple(pairs.index(tuple(sorted((s, other)))) for other in others))
    return len(places), tuple(pairs), tuple(turns), tuple(lengths[e % len(lengths)] for e in range(len(pairs)))


def prism(n, lengths=(1,)):
    """A land of two rings, one within the other, of n shires each, with borders between."""
    pairs = [tuple(sorted((i, (i + 1) % n))) for i in range(n)]
    pairs += [(a + n, b + n) for a, b in pairs] + [(i, n + i) for i in range(n)]
    turns = [(i, 2 * n + i, (i - 1) % n) for i in range(n)]
    turns += [(2 * n + i, n + i, n + (i - 1) % n) for i in range(n)]
    return 2 * n, tuple(pairs), tuple(turns), tuple(lengths[e % len(lengths)] for e in range(3 * n))


# One border alone: both its ends are one corner.
ONE = (2, ((0, 1),), ((0,), (0,)), (7,))
# Three borders between the same two shires, as the turns have to stand.
TRIPLE = (2, ((0, 1), (0, 1), (0, 1)), ((0, 1, 2), (2, 1, 0)), (5, 1, 999999999))
# Four shires in a row: one corner.
ROW = (4, ((0, 1), (1, 2), (2, 3)), ((0,), (0, 1), (1, 2), (2,)), (2, 3, 4))
# A shire with three shires about it that have one border each.
STAR = (4, ((0, 3), (1, 3), (2, 3)), ((0,), (1,), (2,), (0, 1, 2)), (1, 4, 2))
RING = (4, ((0, 1), (1, 2), (2, 3), (0, 3)), ((0, 3), (0, 1), (1, 2), (2, 3)), (1, 1, 1, 1))
# Two borders between shires 0 and 1, and shire 2 in one of the two corners between them.
HUNG = (3, ((0, 1), (0, 1), (0, 2)), ((0, 2, 1), (1, 0), (2,)), (3, 4, 5))
FOUR = (4, ((0, 1), (0, 2), (0, 3), (1, 2), (1, 3), (2, 3)),
        ((0, 1, 2), (0, 4, 3), (1, 3, 5), (2, 5, 4)), (1, 1, 1, 1, 1, 2))

BY_HAND = (ONE, TRIPLE, ROW, STAR, RING, HUNG, FOUR)


def _grown():
    lands = []
    for seed in range(60):
        shires = 2 + seed % 9
        borders = shires - 1 + (seed * 5) % 11
        lands.append(grown_land(seed, shires, borders, (1, 9, 999999999)[seed % 3]))
    return lands


GROWN = tuple(_grown())
# As large as callers may pass them.
LARGE = (grown_land(901, 24, 60, 999999999), grown_land(902, 24, 23), grown_land(903, 2, 60, 999999999),
         grown_land(904, 24, 60, 1))
# Lands with tables: for numbers above the outer borders of all shires, too.
WOVEN = tuple(woven_land(seed, 4 + seed % 7, 1 + seed % 4) for seed in range(60))
GREAT = (board(4, 6), prism(12), board(4, 6, (3, 1, 4, 1, 5, 9, 2, 6)), prism(12, (3, 1, 4, 1, 5, 9, 2)),
         woven_land(7, 20, 3), woven_land(8, 20, 999999999), board(5, 4, (10 ** 9 - 1, 10 ** 9 - 2)))
LANDS = BY_HAND + GROWN + LARGE + WOVEN[:14] + GREAT[:1]


def all_sides(land):
    return [(e, w) for e in range(len(land[1])) for w in (0, 1)]


def some_lots(land, dice, many):
    """Lots in any sequence, () and that of all shires ahead."""
    lots = [(), tuple(range(land[0]))]
    for _ in range(many):
        lots.append(tuple(dice.shuffled(range(land[0]))[:dice.below(land[0] + 1)]))
    return lots
