"""Verdicts: the least width of all plans, plans that have it, and papers that none has less."""

from foxborders.changes import joined
from foxborders.land import is_number, outer_border, outer_borders
from foxborders.plans import formed, judge_plan
from foxborders.tables import goes_from, greatest_table, judge_table


def is_below(land, k):
    """Whether there is a plan of a width below k."""
    return max(outer_borders(land)) < k and greatest_table(land, k) is None


def least_width(land):
    """The least width of all plans."""
    # No plan is less wide than a single shire; from there on a table alone can bar it.
    return goes_from(land, max(outer_borders(land)) + 1) - 1


def _first_join(land, k):
    """The first border behind whose join there is a plan of a width below k, of a land that has such a plan."""
    e = 0
    while not is_below(joined(land, e), k):
        e += 1
    return e


def _row_below(land, k):
    """A row of joins whose plan has a width below k, of a land that has such a plan."""
    row = []
    while land[0] > 2:
        e = _first_join(land, k)
        row.append(e)
        land = joined(land, e)
    return tuple(row)


def told_for(land, k):
    """("plan", a plan of a width below k) if there is one, else ("shire", s) or ("table", table), a paper for k."""
    long = [s for s, length in enumerate(outer_borders(land)) if length >= k]
    if long:
        return ("shire", long[0])
    table = greatest_table(land, k)
    if table is not None:
        return ("table", table)
    return ("plan", plan_of_joins(land, _row_below(land, k)))


def paper_for(land, k):
    """A paper for k, None if there is a plan of a width below k."""
    if is_below(land, k):
        return None
    return told_for(land, k)


def _has_word(value, word):
    """Whether it is a pair of a word and something."""
    return isinstance(value, tuple) and len(value) == 2 and value[0] == word


def judge_paper(land, k, value):
    """None for a paper for k, else its first fault."""
    if _has_word(value, "table"):
        return judge_table(land, k, value[1])
    if not _has_word(value, "shire") or not is_number(value[1]) or not 0 <= value[1] < land[0]:
        return ("form",)
    length = outer_border(land, (value[1],))
    return ("short", length) if length < k else None


def judge_told(land, k, value):
    """None for what can be told for k, a plan or a paper, else its first fault."""
    if _has_word(value, "plan"):
        return judge_plan(land, k, value[1])
    return judge_paper(land, k, value)


def good_joins(land):
    """The ascending tuple of the borders behind whose join the least width is no greater."""
    if land[0] == 2:
        return ()
    k = least_width(land) + 1
    return tuple([e for e in range(len(land[1])) if is_below(joined(land, e), k)])


def join_widths(land):
    """The tuple with, for each border, the least width behind its join."""
    if land[0] == 2:
        return ()
    return tuple([least_width(joined(land, e)) for e in range(len(land[1]))])


def best_joins(land):
    """The row of joins of the first good join each time."""
    row = []
    while land[0] > 2:
        e = _first_join(land, least_width(land) + 1)
        row.append(e)
        land = joined(land, e)
    return tuple(row)


def plan_of_joins(land, row):
    """The plan, in its form, that a row of joins makes."""
    # The plan of each shire of the land as it stands.
    plans = list(range(land[0]))
    for e in row:
        a, b = land[1][e]
        plans[a] = (plans[a], plans[b])
        # As joined does it, each shire above b has one less.
        del plans[b]
        land = joined(land, e)
    one, other = plans
    return formed((one, other))


def judge_joins(land, k, value):
    """None for a row of joins whose plan has a width below k, else the first fault."""
    if not isinstance(value, tuple) or len(value) != land[0] - 2 or not all([is_number(e) for e in value]):
        return ("form",)
    left = land
    for i, e in enumerate(value):
        if not 0 <= e < len(left[1]):
            return ("border", i)
        left = joined(left, e)
    return judge_plan(land, k, plan_of_joins(land, value))


def best_plan(land):
    """A plan of the least width, in its form."""
    return plan_of_joins(land, _row_below(land, least_width(land) + 1))


def verdict(land):
    """The least width, a plan that has it, and a paper that none has less."""
    width = least_width(land)
    plan = plan_of_joins(land, _row_below(land, width + 1))
    return (width, plan, told_for(land, width))


def judge_verdict(land, value):
    """None for a verdict, else its first fault."""
    if not isinstance(value, tuple) or len(value) != 3 or not is_number(value[0]) or value[0] < 1:
        return ("form",)
    width, plan, paper = value
    fault = judge_plan(land, width + 1, plan)
    if fault is not None:
        return ("plan", fault)
    fault = judge_paper(land, width, paper)
    return ("paper", fault) if fault is not None else None
