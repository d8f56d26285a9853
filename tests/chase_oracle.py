"""What part 6 tells of moves, ranks, best moves and chases, told in another way than the package does it."""

from tests.rounds_oracle import classes, ends_of, far_table, noisy_borders, quiet_pairs_of, whole


class Chase:
    """A land and a number k."""

    def __init__(self, land, k):
        far = far_table(land)
        self.land = land
        self.ends = ends_of(land)
        self.corners = len(far)
        self.found = []
        for e, pair in enumerate(land[1]):
            others = [s for s in range(land[0]) if s not in pair]
            self.found.append(classes(others, quiet_pairs_of(land, noisy_borders(land, far, e, k))))

    def bell_moves(self, c):
        return tuple(e for e, pair in enumerate(self.ends) if c in pair)

    def fox_moves(self, s, e):
        return next((piece for piece in self.found[e] if s in piece), ())

    def comes_to(self, c, e):
        one, other = self.ends[e]
        return one + other - c

    def positions(self):
        return [(c, s) for c in range(self.corners) for s in range(self.land[0])]

    def ranks(self):
        """Round by round, by what [6.2] tells of positions."""
        told = {}
        for c, s in self.positions():
            if any(s in self.land[1][e] for e in self.bell_moves(c)):
                told[(c, s)] = 1
        number = 1
        grown = True
        while grown:
            number += 1
            ahead = dict(told)
            for c, s in self.positions():
                if (c, s) not in ahead and any(
                        all((self.comes_to(c, e), t) in ahead for t in self.fox_moves(s, e)) for e in self.bell_moves(c)):
                    told[(c, s)] = number
            grown = len(told) > len(ahead)
        return told

    def bell_move(self, told, position):
        c, s = position
        rank = told.get(position)
        if rank is None:
            return None
        for e in self.bell_moves(c):
            if rank == 1:
                if s in self.land[1][e]:
                    return e
            else:
                behind = [told.get((self.comes_to(c, e), t)) for t in self.fox_moves(s, e)]
                if behind and None not in behind and max(behind) == rank - 1:
                    return e
        raise AssertionError("a rank comes of a border")

    def fox_move(self, told, position, e):
        c, s = position
        best = None
        for t in self.fox_moves(s, e):
            rank = told.get((self.comes_to(c, e), t))
            worth = float("inf") if rank is None else rank
            if best is None or worth > best[0]:
                best = (worth, t)
        return best and best[1]

    def fault(self, value):
        n, many = self.land[0], len(self.land[1])

        def place(part, below):
            return whole(part) and 0 <= part < below

        def pair(part):
            return type(part) is tuple and len(part) == 2

        if not pair(value) or not pair(value[0]) or type(value[1]) is not tuple:
            return ("form",)
        (c, s), steps = value
        if not place(c, self.corners) or not place(s, n):
            return ("form",)
        if not all(pair(step) and place(step[0], many) and (step[1] is None or place(step[1], n)) for step in steps):
            return ("form",)
        caught = False
        for i, (e, t) in enumerate(steps):
            if caught:
                return ("late", i)
            if c not in self.ends[e]:
                return ("bell", i)
            caught = s in self.land[1][e]
            if (t is None) != caught or (t is not None and t not in self.fox_moves(s, e)):
                return ("fox", i)
            c, s = self.comes_to(c, e), t
        return None


def greater(one, other):
    """Whether a rank is greater than another one, None greater than all."""
    return other is not None and (one is None or one > other)
