"""Sketches and tables: where a fox may be at each corner and along each border, and what falls from such a sketch."""

from foxborders.land import all_ends, corner_count
from foxborders.masks import links_over, mask_of, mask_pieces, pieces_over, shires_in
from foxborders.plans import is_lot, rest_of
from foxborders.rounds import all_noisy, all_rounds, noisy, noisy_by, quiet_pairs


class Shrinking:
    """A sketch, held in masks, from which falls what cannot stand, lap by lap.

    told are the ends of all borders; links has for each border what masks.links_over tells of its quiet borders.
    """

    def __init__(self, told, links, sketch):
        self.told = told
        self.links = links
        self.at = [mask_of(shires) for shires in sketch[0]]
        self.along = [mask_of(shires) for shires in sketch[1]]
        self.borders_by_corner = [[] for _ in self.at]
        for e, pair in enumerate(told):
            for c in sorted(set(pair)):
                self.borders_by_corner[c].append(e)
        # Where something can fall in the next lap: corners, and borders besides those at which a corner changes.
        self.late_corners = list(range(len(self.at)))
        self.late_borders = list(range(len(told)))

    def fall_at(self):
        """Does all falls from at that there are; the list of the corners from which something fell."""
        changed = []
        for c in self.late_corners:
            left = self.at[c]
            for e in self.borders_by_corner[c]:
                left &= self.along[e]
            if left != self.at[c]:
                self.at[c] = left
                changed.append(c)
        return changed

    def fall_along(self, borders):
        """Does all falls from along that there are at some borders; the list of those from which something fell."""
        changed = []
        for e in borders:
            one, other = self.told[e]
            left = 0
            for piece in mask_pieces(self.links[e], self.along[e]):
                if piece & self.at[one] and piece & self.at[other]:
                    left |= piece
            if left != self.along[e]:
                self.along[e] = left
                changed.append(e)
        return changed

    def lap(self):
        """Does a lap, and returns whether something fell."""
        changed = self.fall_at()
        near = [e for c in changed for e in self.borders_by_corner[c]]
        gone = self.fall_along(sorted(set(self.late_borders + near)))
        # Behind a lap only what is next to a change of it can fall: else all was looked at already.
        self.late_corners = sorted({c for e in gone for c in self.told[e]})
        self.late_borders = []
        return changed != [] or gone != []

    def take(self, c, s):
        """Takes shire s from corner c of a table, from which nothing else could fall."""
        self.at[c] &= ~(1 << s)
        self.late_corners = []
        self.late_borders = list(self.borders_by_corner[c])

    def settled(self):
        """Does laps till nothing falls, and returns whether a table is left."""
        while self.lap():
            # The land is in one piece: where nothing is left at one corner, all falls.
            if 0 in self.at:
                return False
        return 0 not in self.at

    def sketch(self):
        """The sketch that is left."""
        return (tuple([shires_in(mask) for mask in self.at]), tuple([shires_in(mask) for mask in self.along]))


def _links(land, noisy_told):
    """The list with, for each border, what links_over tells of the borders that are not noisy for it."""
    return [links_over(land[0], quiet_pairs(land, told)) for told in noisy_told]


def _shrinking(land, k, sketch):
    """The shrinking of a sketch at k."""
    return Shrinking(all_ends(land), _links(land, all_noisy(land, k)), sketch)


def first_sketch(land):
    """The sketch that has all shires everywhere, but along each border those that lie at it."""
    n = land[0]
    return ((tuple(range(n)),) * corner_count(land), tuple([rest_of(n, pair) for pair in land[1]]))


def _paired(one, other):
    """The list of the pairs of tuples that stand in the same places of two sketches of one land."""
    return list(zip(one[0] + one[1], other[0] + other[1]))


def is_within(one, other):
    """Whether each tuple of a sketch has only shires that the like one of another sketch has."""
    return all([mask_of(mine) & ~mask_of(theirs) == 0 for mine, theirs in _paired(one, other)])


def together(one, other):
    """The sketch that has in each tuple what one of two sketches at least has there."""
    both = [shires_in(mask_of(mine) | mask_of(theirs)) for mine, theirs in _paired(one, other)]
    many = len(one[0])
    return (tuple(both[:many]), tuple(both[many:]))


def sketch_pieces(land, k, e, shires):
    """The ascending tuple of the pieces of some shires for (e, k)."""
    return pieces_over(land[0], quiet_pairs(land, noisy(land, e, k)), shires)


def _pieces_along(land, k, along):
    """The list with, for each border, the pieces of what a sketch has along it."""
    told = all_noisy(land, k)
    return [pieces_over(land[0], quiet_pairs(land, told[e]), shires) for e, shires in enumerate(along)]


def _meets(piece, shires):
    """Whether a piece has one of some shires."""
    return any([s in shires for s in piece])


def _has_form(land, value):
    """Whether it is a pair of tuples, with a lot of shires for each corner, and for each border."""
    if not isinstance(value, tuple) or len(value) != 2:
        return False
    for part, many in zip(value, (corner_count(land), len(land[1]))):
        if not isinstance(part, tuple) or len(part) != many or not all([is_lot(land[0], lot) for lot in part]):
            return False
    return True


def _lying(land, along):
    """The fault of the least border along which a shire is told that lies at it, None if there is none."""
    for e, shires in enumerate(along):
        for s in shires:
            if s in land[1][e]:
                return ("lies", e, s)
    return None


def _corner_fault(told, sketch):
    """The fault of the least corner at which a shire is told that is not along a border there, None without one."""
    at, along = sketch
    for c, shires in enumerate(at):
        for e, pair in enumerate(told):
            if c in pair:
                for s in shires:
                    if s not in along[e]:
                        return ("corner", c, e, s)
    return None


def _piece_fault(land, k, told, sketch):
    """The fault of the least border with a piece that has no shire of a corner at its end, None without one."""
    at, along = sketch
    for e, found in enumerate(_pieces_along(land, k, along)):
        for c in sorted(set(told[e])):
            for piece in found:
                if not _meets(piece, at[c]):
                    return ("piece", e, c, piece[0])
    return None


def judge_table(land, k, value):
    """None for a table for k, else its first fault."""
    if not _has_form(land, value):
        return ("form",)
    told = all_ends(land)
    for fault in (_lying(land, value[1]), _corner_fault(told, value)):
        if fault is not None:
            return fault
    return _piece_fault(land, k, told, value)


def is_table(land, k, value):
    """Whether it is a table for k."""
    return judge_table(land, k, value) is None


def falls(land, k, sketch):
    """The tuple of all falls that there are from a sketch: those from at, then those from along, ascending."""
    at, along = sketch
    told = all_ends(land)
    found = []
    for c, shires in enumerate(at):
        beside = [along[e] for e, pair in enumerate(told) if c in pair]
        found.extend([("at", c, s) for s in shires if not all([s in others for others in beside])])
    for e, pieces_told in enumerate(_pieces_along(land, k, along)):
        beside = [at[c] for c in told[e]]
        for piece in pieces_told:
            if not all([_meets(piece, shires) for shires in beside]):
                found.append(("along", e, piece))
    return tuple(found)


def _less(rows, place, gone):
    """Some tuples of shires, of which the one at a place is without some shires."""
    left = tuple([s for s in rows[place] if s not in gone])
    return rows[:place] + (left,) + rows[place + 1:]


def fallen(sketch, fall):
    """The sketch behind a fall."""
    at, along = sketch
    word, place, gone = fall
    if word == "at":
        return (_less(at, place, (gone,)), along)
    return (at, _less(along, place, gone))


def greatest_within(land, k, sketch):
    """The greatest table for k within a sketch, None if there is none."""
    shrinking = _shrinking(land, k, sketch)
    return shrinking.sketch() if shrinking.settled() else None


def greatest_table(land, k):
    """The greatest table for k, None if there is none."""
    return greatest_within(land, k, first_sketch(land))


def laps(land, k):
    """The tuple of the first sketch and of those behind each lap."""
    shrinking = _shrinking(land, k, first_sketch(land))
    found = [shrinking.sketch()]
    while shrinking.lap():
        found.append(shrinking.sketch())
    return tuple(found)


def all_laps(land, k):
    """The tuple, corner by corner, of the tuples of the laps in which each shire falls from at, None if it stays."""
    shrinking = _shrinking(land, k, first_sketch(land))
    numbers = [[None] * land[0] for _ in shrinking.at]
    number = 0
    ahead = list(shrinking.at)
    while shrinking.lap():
        number += 1
        for c, mask in enumerate(ahead):
            for s in shires_in(mask & ~shrinking.at[c]):
                numbers[c][s] = number
        ahead = list(shrinking.at)
    return tuple([tuple(row) for row in numbers])


def lap_of(land, k, c, s):
    """The number of the lap in which shire s falls from corner c, None if it never does."""
    return all_laps(land, k)[c][s]


def goes_from(land, least):
    """The least number from a given one on for which there is no table."""
    rounds = all_rounds(land)
    told = all_ends(land)
    sketch = first_sketch(land)
    many = len(told)
    # What is noisy, and so what is a table, changes just behind the length of a round.
    lengths = sorted({rounds[e][f] + 1 for e in range(many) for f in range(e)})
    numbers = [least] + [length for length in lengths if length > least]
    low = 0
    high = len(numbers) - 1
    middle = 0
    while low < high:
        noisy_told = [noisy_by(lengths_told, e, numbers[middle]) for e, lengths_told in enumerate(rounds)]
        if Shrinking(told, _links(land, noisy_told), sketch).settled():
            low = middle + 1
        else:
            high = middle
        middle = (low + high) // 2
    return numbers[low]


def goes_at(land):
    """The least number from 1 on for which there is no table."""
    return goes_from(land, 1)


def thin_table(land, k, table):
    """The table within a given one that is left when each shire is taken that need not be at its corner."""
    links = _links(land, all_noisy(land, k))
    told = all_ends(land)
    left = table
    for c in range(len(table[0])):
        here = left[0][c]
        # Some of these may have fallen when others were taken: then nothing changes.
        for s in here:
            shrinking = Shrinking(told, links, left)
            shrinking.take(c, s)
            if shrinking.settled():
                left = shrinking.sketch()
    return left
