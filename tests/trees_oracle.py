"""What part 9 tells of trees of borders and of the land of turns, told in another way than the package does it."""

from tests.plans_oracle import all_plans, is_a_plan, leaves, lots, whole
from tests.rounds_oracle import ends_of
from tests.tables_oracle import Ground


def load_by(groups, lot):
    """How many are told beside a border in the lot, and beside one that is not in it; groups tells them by borders."""
    inside = {part for e, group in enumerate(groups) if e in lot for part in group}
    outside = {part for e, group in enumerate(groups) if e not in lot for part in group}
    return tuple(sorted(inside & outside))


def by_shires(land):
    return land[1]


def by_corners(land):
    return ends_of(land)


def greatest_load(groups, tree):
    return max(len(load_by(groups, lot)) for lot in lots(tree))


def least_load_of_all(land, groups):
    """The least of the greatest loads of all trees."""
    loads = {}
    least = len(groups) + len(land[1])
    for tree in all_plans(len(land[1])):
        worst = 0
        for lot in lots(tree):
            if lot not in loads:
                loads[lot] = len(load_by(groups, lot))
            worst = max(worst, loads[lot])
        least = min(least, worst)
    return least


def tree_fault(land, groups, k, value):
    many = len(land[1])
    if not is_a_plan(value) or max(leaves(value)) >= many:
        return ("form",)
    wrong = [e for e in range(many) if leaves(value).count(e) != 1]
    if wrong:
        return ("border", wrong[0])
    heavy = [(lot, len(load_by(groups, lot))) for lot in lots(value) if len(load_by(groups, lot)) >= k]
    return ("load",) + heavy[0] if heavy else None


def angles_of(land):
    """By the words of [9.4]: the corner is that of the side of e that begins in s."""
    ends = ends_of(land)
    found = []
    for s, turn in enumerate(land[2]):
        for place, e in enumerate(turn if len(turn) > 1 else ()):
            f = turn[(place + 1) % len(turn)]
            found.append((s, e, f, ends[e][0 if land[1][e][0] == s else 1]))
    return tuple(found)


def turns_land(land):
    told = angles_of(land)
    turns = []
    for e, (a, b) in enumerate(land[1]):
        wanted = ((b, 2), (a, 1), (a, 2), (b, 1))
        turns.append(tuple(i for s, which in wanted for i, angle in enumerate(told) if angle[0] == s and angle[which] == e))
    pairs = tuple(tuple(sorted((e, f))) for _, e, f, _ in told)
    return (len(land[1]), pairs, tuple(turns), (1,) * len(pairs))


def tree_verdict_fault(land, value, ground=None):
    if type(value) is not tuple or len(value) != 3 or not whole(value[0]) or value[0] < 1:
        return ("form",)
    load, tree, paper = value
    fault = tree_fault(land, by_shires(land), load + 1, tree)
    if fault is not None:
        return ("tree", fault)
    if type(paper) is tuple and len(paper) == 2 and type(paper[0]) is str:
        if paper[0] == "border" and whole(paper[1]) and paper[1] in range(len(land[1])):
            alone = len(load_by(by_shires(land), (paper[1],)))
            return ("paper", ("border", alone)) if alone < load else None
        if paper[0] == "table":
            fault = (ground or Ground(turns_land(land), 2 * load)).fault(paper[1])
            return ("paper", fault) if fault is not None else None
    return ("paper", ("form",))
