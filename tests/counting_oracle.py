"""What part 10 tells of plans counted and numbered, by a list of all plans, in the sequence that the document tells."""

from tests.plans_oracle import all_plans, leaves, lots, plan_width, subplans
from tests.rounds_oracle import classes


def lot(plan):
    return tuple(sorted(leaves(plan)))


def key(plan):
    """Of plans of the same shires the one with the lesser key stands ahead."""
    return (lot(plan[0]), key(plan[0]), key(plan[1])) if type(plan) is tuple else ()


class Listed:
    """All plans of a land, in their sequence, and their widths."""

    def __init__(self, land):
        self.land = land
        self.plans = sorted(all_plans(land[0]), key=key)
        self.widths = [plan_width(land, plan) for plan in self.plans]

    def below(self, k):
        return [plan for plan, width in zip(self.plans, self.widths) if width < k]

    def with_lot(self, some):
        return [(width, plan) for plan, width in zip(self.plans, self.widths) if some in lots(plan)]

    def numbers(self):
        """Numbers k at which something changes, and others."""
        return sorted({-10 ** 11 + 1, -1, 0, 1, 10 ** 11 - 1} | {width + more for width in self.widths for more in (0, 1)})


def joins_neighbours(land, plan):
    pairs = [part for part in subplans(plan) if type(part) is tuple]
    return all(any({a, b} & set(leaves(one)) and {a, b} & set(leaves(other)) for a, b in land[1]) for one, other in pairs)


def is_in_pieces(land, plan):
    whole = set(range(land[0]))
    for some in lots(plan):
        for part in (set(some), whole - set(some)):
            if part and len(classes(sorted(part), land[1])) > 1:
                return False
    return True
