"""What part 5 tells of sketches, tables and falls, told in another way than the package does it."""

from tests.rounds_oracle import classes, ends_of, far_table, noisy_borders, quiet_pairs_of
from tests.plans_oracle import is_a_lot


class Ground:
    """What a land and a number k make of ends, noise and pieces."""

    def __init__(self, land, k):
        far = far_table(land)
        self.land = land
        self.ends = ends_of(land)
        self.many = len(far)
        self.quiet = [quiet_pairs_of(land, noisy_borders(land, far, e, k)) for e in range(len(land[1]))]

    def pieces(self, e, shires):
        return classes(shires, self.quiet[e])

    def first(self):
        n = self.land[0]
        return (tuple(tuple(range(n)) for _ in range(self.many)),
                tuple(tuple(s for s in range(n) if s not in pair) for pair in self.land[1]))

    def falls(self, sketch):
        at, along = sketch
        found = set()
        for e, pair in enumerate(self.ends):
            for c in pair:
                found |= {("at", c, s) for s in at[c] if s not in along[e]}
                found |= {("along", e, piece) for piece in self.pieces(e, along[e]) if not set(piece) & set(at[c])}
        ahead = sorted(fall for fall in found if fall[0] == "at")
        return tuple(ahead + sorted(fall for fall in found if fall[0] == "along"))

    def fault(self, value):
        n, many = self.land[0], len(self.land[1])
        if type(value) is not tuple or len(value) != 2 or [type(part) for part in value] != [tuple, tuple]:
            return ("form",)
        at, along = value
        if [len(at), len(along)] != [self.many, many] or not all(is_a_lot(n, lot) for lot in at + along):
            return ("form",)
        lying = [(e, s) for e in range(many) for s in along[e] if s in self.land[1][e]]
        if lying:
            return ("lies",) + min(lying)
        lost = [(c, e, s) for e in range(many) for c in self.ends[e] for s in at[c] if s not in along[e]]
        if lost:
            return ("corner",) + min(lost)
        alone = [(e, c, min(piece)) for e in range(many) for c in self.ends[e] for piece in self.pieces(e, along[e])
                 if not set(piece) & set(at[c])]
        return ("piece",) + min(alone) if alone else None

    def left_of(self, sketch, dice):
        """What is left when falls are done one behind another, any one each time."""
        while falls := self.falls(sketch):
            sketch = without(sketch, dice.pick(falls))
        return sketch


def without(sketch, fall):
    """A sketch without what falls."""
    gone = {fall[2]} if fall[0] == "at" else set(fall[2])
    which = 0 if fall[0] == "at" else 1
    rows = [list(part) for part in sketch]
    rows[which][fall[1]] = tuple(s for s in rows[which][fall[1]] if s not in gone)
    return (tuple(rows[0]), tuple(rows[1]))


def all_empty(sketch):
    return all(lot == () for part in sketch for lot in part)


def within(one, other):
    return all(set(mine) <= set(theirs) for a, b in zip(one, other) for mine, theirs in zip(a, b))


def random_sketch(dice, first, part):
    """A sketch within a sketch, with about one of so many shires left out."""
    return tuple(tuple(tuple(s for s in lot if dice.below(part)) for lot in rows) for rows in first)
