"""Plans for the tests, and what part 4 tells of them, told in another way than the package does it."""


def whole(value):
    return type(value) is int


def leaves(plan):
    return leaves(plan[0]) + leaves(plan[1]) if type(plan) is tuple else [plan]


def subplans(plan):
    return [plan] + (subplans(plan[0]) + subplans(plan[1]) if type(plan) is tuple else [])


def lots(plan):
    return tuple(sorted(tuple(sorted(leaves(part))) for part in subplans(plan)))


def in_form(plan):
    """The plan with the two of each pair exchanged where the least shire is not in the first."""
    if type(plan) is not tuple:
        return plan
    one, other = in_form(plan[0]), in_form(plan[1])
    return (one, other) if min(leaves(one)) < min(leaves(other)) else (other, one)


def with_shire(plan, s):
    """All plans that come when shire s joins some lot of a plan first, or all of it last."""
    yield (plan, s)
    if type(plan) is tuple:
        for one in with_shire(plan[0], s):
            yield (one, plan[1])
        for other in with_shire(plan[1], s):
            yield (plan[0], other)


def all_plans(n):
    """All plans of n shires, in their form."""
    plans = [0]
    for s in range(1, n):
        plans = [grown for plan in plans for grown in with_shire(plan, s)]
    return [in_form(plan) for plan in plans]


def random_plan(dice, shires):
    """A plan of some shires, not in its form."""
    parts = list(shires)
    while len(parts) > 1:
        one = parts.pop(dice.below(len(parts)))
        other = parts.pop(dice.below(len(parts)))
        parts.append((one, other))
    return parts[0]


def cut(land, lot):
    return sum(length for (a, b), length in zip(land[1], land[3]) if (a in lot) != (b in lot))


def plan_width(land, plan):
    return max(cut(land, lot) for lot in lots(plan))


def least_width_of_all(land):
    """The least width, by all plans."""
    return min(plan_width(land, plan) for plan in all_plans(land[0]))


def is_a_plan(value):
    if whole(value):
        return value >= 0
    return type(value) is tuple and len(value) == 2 and is_a_plan(value[0]) and is_a_plan(value[1])


def plan_fault(land, k, value):
    if not is_a_plan(value) or max(leaves(value)) >= land[0]:
        return ("form",)
    wrong = [s for s in range(land[0]) if leaves(value).count(s) != 1]
    if wrong:
        return ("shire", wrong[0])
    long = [(lot, cut(land, lot)) for lot in lots(value) if cut(land, lot) >= k]
    return ("long",) + long[0] if long else None


def is_a_lot(n, value):
    return type(value) is tuple and value != () and all(map(whole, value)) and (
        list(value) == sorted(set(value)) and set(value) <= set(range(n)))


def lots_fault(n, value):
    if type(value) is not tuple or not all(is_a_lot(n, lot) for lot in value) or list(value) != sorted(set(value)):
        return ("form",)
    for i, one in enumerate(value):
        for j, other in enumerate(value):
            if i < j and set(one) & set(other) and not set(one) <= set(other) and not set(other) <= set(one):
                return ("cross", i, j)
    return None if len(value) == 2 * n - 1 else ("many", len(value))


def are_near(one, other):
    return len(set(lots(one)) - set(lots(other))) == 1 and sorted(leaves(one)) == sorted(leaves(other))


def between_fault(one, other, value):
    shires = sorted(leaves(one))
    if type(value) is not tuple or value == ():
        return ("form",)
    for plan in value:
        if not is_a_plan(plan) or sorted(leaves(plan)) != shires or in_form(plan) != plan:
            return ("form",)
    if value[0] != in_form(one):
        return ("begins",)
    for i in range(1, len(value)):
        if not are_near(value[i - 1], value[i]):
            return ("step", i)
    return None if value[-1] == in_form(other) else ("ends",)
