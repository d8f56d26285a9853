"""Lots and plans: lots of shires that are joined two at a time, plans by their lots, widths, and near plans."""

from foxborders.land import is_number, outer_border
from foxborders.masks import mask_of


def is_lot(n, value):
    """Whether it is a lot of n shires."""
    if not isinstance(value, tuple) or value == () or not all([is_number(s) for s in value]):
        return False
    ascends = all([one < other for one, other in zip(value, value[1:])])
    return ascends and value[0] >= 0 and value[-1] < n


def rest_of(n, lot):
    """The ascending tuple of the shires, of n, that are not in a lot."""
    return tuple([s for s in range(n) if s not in lot])


def _leaves(value):
    """The list of what stands in pairs, pairs of pairs and so on, but is none itself; one value alone if it is none."""
    found = []
    # No recursion: what was read may be deep.
    todo = [value]
    while todo:
        part = todo.pop()
        if isinstance(part, tuple) and len(part) == 2:
            todo.extend([part[1], part[0]])
        else:
            found.append(part)
    return found


def _is_plan_below(n, value):
    """Whether it is a plan, with integers below n alone, each as often as it likes."""
    return all([is_number(leaf) and 0 <= leaf < n for leaf in _leaves(value)])


def is_plan(n, value):
    """Whether it is a plan of n shires, in its form or not."""
    return _is_plan_below(n, value) and sorted(_leaves(value)) == list(range(n))


def shires_of(plan):
    """The ascending tuple of the shires that stand in a plan."""
    return tuple(sorted(_leaves(plan)))


def _parted(plan):
    """The list of all plans that stand in a plan, itself first, each ahead of those that stand in it."""
    found = []
    todo = [plan]
    while todo:
        part = todo.pop()
        found.append(part)
        if isinstance(part, tuple):
            todo.extend([part[1], part[0]])
    return found


def lots_of(plan):
    """The ascending tuple of the lots of a plan."""
    return tuple(sorted([shires_of(part) for part in _parted(plan)]))


def plan_by_lots(lots):
    """The plan, in its form, that has just these lots."""
    # For each lot that is joined, and in no greater one yet, its plan, by its least shire.
    plans = {}
    for lot in sorted(lots, key=len):
        least = [s for s in lot if s in plans]
        if least:
            one, other = least
            behind = plans.pop(other)
            plans[one] = (plans[one], behind)
        else:
            plans[lot[0]] = lot[0]
    return plans[min(list(plans))]


def formed(plan):
    """The plan in its form."""
    return plan_by_lots(lots_of(plan))


def _cross(one, other):
    """Whether two masks share a shire though neither lies within the other."""
    both = one & other
    return both != 0 and both != one and both != other


def _first_cross(lots):
    """The numbers of the least two of some lots that cross, None if there are none."""
    masks = [mask_of(lot) for lot in lots]
    for i, one in enumerate(masks):
        for j in range(i + 1, len(masks)):
            if _cross(one, masks[j]):
                return (i, j)
    return None


def judge_lots(n, value):
    """None for the lots of a plan of n shires, else the first fault."""
    if not isinstance(value, tuple) or not all([is_lot(n, lot) for lot in value]):
        return ("form",)
    if not all([one < other for one, other in zip(value, value[1:])]):
        return ("form",)
    found = _first_cross(value)
    if found is not None:
        return ("cross",) + found
    return ("many", len(value)) if len(value) != 2 * n - 1 else None


def plan_of(n, lots):
    """The plan of n shires that has these lots."""
    return plan_by_lots(lots)


def width(land, plan):
    """The greatest outer border of a lot of a plan."""
    return max([outer_border(land, lot) for lot in lots_of(plan)])


def widest(land, plan):
    """The least lot of a plan whose outer border is the width."""
    greatest = width(land, plan)
    return [lot for lot in lots_of(plan) if outer_border(land, lot) == greatest][0]


def judge_members(n, word, value):
    """None for a plan of n members, else ("form",), or word and the least member that does not stand just once."""
    if not _is_plan_below(n, value):
        return ("form",)
    leaves = _leaves(value)
    for member in range(n):
        if leaves.count(member) != 1:
            return (word, member)
    return None


def judge_plan(land, k, value):
    """None for a plan of the land's shires of a width below k, else its first fault."""
    fault = judge_members(land[0], "shire", value)
    if fault is not None:
        return fault
    for lot in lots_of(value):
        length = outer_border(land, lot)
        if length >= k:
            return ("long", lot, length)
    return None


def _without(shires, lot):
    """The ascending tuple of those of some ascending shires that are not in a lot."""
    return tuple([s for s in shires if s not in lot])


def rooted(plan, s):
    """The plan, in its form, that joins shire s last and parts the shires in two as the plan does."""
    shires = shires_of(plan)
    # Of a lot with s the rest takes the place; these may come twice, as both of the whole pair are one another's rest.
    lots = {(s,): True, shires: True}
    for lot in lots_of(plan):
        if lot != shires:
            lots[_without(shires, lot) if s in lot else lot] = True
    return plan_by_lots(list(lots))


def led(plan, names):
    """The plan, in its form, with names[s] in the place of each shire s."""
    return plan_by_lots([tuple(sorted([names[s] for s in lot])) for lot in lots_of(plan)])


def put_plans(one, s, other, t):
    """The plan of both, of which shire t of other is shire s of one, and the rest of other joins it ahead of all."""
    n = len(shires_of(one))
    m = len(shires_of(other))
    names = [n + u if u < t else n + u - 1 for u in range(m)]
    names[t] = s
    lots = {lot + tuple(range(n, n + m - 1)) if s in lot else lot: True for lot in lots_of(one)}
    # The lot of all that comes of other is there already: what became of shire s alone.
    for lot in lots_of(led(rooted(other, t), names)):
        lots[lot] = True
    return plan_by_lots(list(lots))


def ladder(order):
    """The plan, in its form, that joins the first two of some shires, then one more each time."""
    lots = [(s,) for s in order]
    lots.extend([tuple(sorted(order[:many])) for many in range(2, len(order) + 1)])
    return plan_by_lots(lots)


def is_ladder(plan):
    """Whether of each pair in a plan one at least is a single shire."""
    pairs = [part for part in _parted(plan) if isinstance(part, tuple)]
    return all([is_number(one) or is_number(other) for one, other in pairs])


def _is_within(one, other):
    """Whether all shires of a lot are in another one."""
    return all([s in other for s in one])


def _above(lots, lot):
    """The least lot of a plan that holds a lot of it and more."""
    return min([other for other in lots if other != lot and _is_within(lot, other)], key=len)


def _halves(lots, lot):
    """The two lots of a plan that are joined to a lot of it."""
    one = max([other for other in lots if other != lot and _is_within(other, lot)], key=len)
    return (one, _without(lot, one))


def _exchanged(lots, old, new):
    """The ascending tuple of some lots, with one of them exchanged for another one."""
    return tuple(sorted([new if lot == old else lot for lot in lots]))


def near_plans(plan):
    """The tuple of all plans that have all lots but one in common with a plan, ascending by their lots."""
    lots = lots_of(plan)
    found = []
    for lot in lots:
        if 1 < len(lot) < len(shires_of(plan)):
            above = _above(lots, lot)
            found.extend([_exchanged(lots, lot, _without(above, half)) for half in _halves(lots, lot)])
    return tuple([plan_by_lots(near) for near in sorted(found)])


def _to_ladder(plan):
    """The plans, each near the one ahead, from a plan to the ladder of its ascending shires."""
    shires = shires_of(plan)
    lots = lots_of(plan)
    told = [plan_by_lots(lots)]
    for many in range(len(shires), 2, -1):
        whole = shires[:many]
        s = whole[-1]
        # The greatest shire goes up from pair to pair, till it is joined last of these.
        lot = _above(lots, (s,))
        while lot != whole:
            above = _above(lots, lot)
            lots = _exchanged(lots, lot, _without(above, (s,)))
            told.append(plan_by_lots(lots))
            lot = above
    return told


def plans_between(one, other):
    """A tuple of plans, each near the one ahead, that leads from one plan to another one."""
    back = _to_ladder(other)[::-1]
    # Both ways end at the same ladder, which stands there once.
    return tuple(_to_ladder(one) + back[1:])


def _is_near(one, other):
    """Whether two plans have all lots but one in common."""
    lots = lots_of(other)
    return len([lot for lot in lots_of(one) if lot not in lots]) == 1


def judge_between(one, other, value):
    """None for plans, each near the one ahead, that lead from one plan to another one, else the first fault."""
    n = len(shires_of(one))
    if not isinstance(value, tuple) or value == ():
        return ("form",)
    if not all([is_plan(n, plan) and formed(plan) == plan for plan in value]):
        return ("form",)
    if value[0] != formed(one):
        return ("begins",)
    for i in range(1, len(value)):
        if not _is_near(value[i - 1], value[i]):
            return ("step", i)
    return ("ends",) if value[-1] != formed(other) else None
