"""Trees of borders: borders joined two lots at a time, their loads, and the land of turns, which tells the least ones.

rounds has for each shire, or for each corner, its borders: loads by shires and by corners are told in the same way.
"""

from foxborders.land import all_ends, corners, is_number
from foxborders.plans import judge_members, lots_of
from foxborders.tables import greatest_table, judge_table
from foxborders.verdicts import best_plan, least_width


def _corner_rounds(land):
    """The tuple with, for each corner, the tuple of the borders of its round."""
    return tuple([tuple([e for e, _ in sides]) for sides in corners(land)])


def _meeting(rounds, lot):
    """The ascending tuple of the numbers of the rounds with a border in a lot and one that is not in it."""
    found = []
    for number, told in enumerate(rounds):
        inside = len([e for e in told if e in lot])
        if 0 < inside < len(told):
            found.append(number)
    return tuple(found)


def meeting_shires(land, lot):
    """The ascending tuple of the shires that have a border in a lot and one that is not in it."""
    return _meeting(land[2], lot)


def meeting_corners(land, lot):
    """The ascending tuple of the corners that have a border in a lot and one that is not in it."""
    return _meeting(_corner_rounds(land), lot)


def shire_load(land, lot):
    """How many shires have a border in a lot and one that is not in it."""
    return len(meeting_shires(land, lot))


def corner_load(land, lot):
    """How many corners have a border in a lot and one that is not in it."""
    return len(meeting_corners(land, lot))


def _greatest_load(rounds, tree):
    """The greatest load of a lot of a tree, by some rounds."""
    return max([len(_meeting(rounds, lot)) for lot in lots_of(tree)])


def tree_load(land, tree):
    """The greatest load by shires of a lot of a tree."""
    return _greatest_load(land[2], tree)


def corner_tree_load(land, tree):
    """The greatest load by corners of a lot of a tree."""
    return _greatest_load(_corner_rounds(land), tree)


def _judge_loads(land, rounds, k, value):
    """None for a tree of the land's borders with all loads below k, by some rounds, else its first fault."""
    fault = judge_members(len(land[1]), "border", value)
    if fault is not None:
        return fault
    for lot in lots_of(value):
        load = len(_meeting(rounds, lot))
        if load >= k:
            return ("load", lot, load)
    return None


def judge_tree(land, k, value):
    """None for a tree of the land's borders with a tree_load below k, else its first fault."""
    return _judge_loads(land, land[2], k, value)


def judge_corner_tree(land, k, value):
    """None for a tree of the land's borders with a corner_tree_load below k, else its first fault."""
    return _judge_loads(land, _corner_rounds(land), k, value)


def angles(land):
    """The tuple of (s, e, f, c): border f stands behind e in the turn of shire s, corner c lies between them."""
    told = all_ends(land)
    found = []
    for s, turn in enumerate(land[2]):
        if len(turn) > 1:
            for e, f in zip(turn, turn[1:] + turn[:1]):
                found.append((s, e, f, told[e][land[1][e].index(s)]))
    return tuple(found)


def land_of_turns(land):
    """The land that has the borders of a land, of two or more, for shires, and its angles for borders."""
    found = angles(land)
    firsts = {(angle[0], angle[1]): number for number, angle in enumerate(found)}
    seconds = {(angle[0], angle[2]): number for number, angle in enumerate(found)}
    turns = []
    for e, (a, b) in enumerate(land[1]):
        # So one comes round the border against the clock.
        told = [seconds.get((b, e)), firsts.get((a, e)), seconds.get((a, e)), firsts.get((b, e))]
        turns.append(tuple([number for number in told if number is not None]))
    pairs = [tuple(sorted(angle[1:3])) for angle in found]
    return (len(turns), tuple(pairs), tuple(turns), (1,) * len(pairs))


def outer_in_turns(land, lot):
    """How many angles have just one of their two borders in a lot."""
    return len([angle for angle in angles(land) if (angle[1] in lot) != (angle[2] in lot)])


def least_load(land):
    """The least tree_load of all trees of the land's borders."""
    if len(land[1]) == 1:
        return 0
    return least_width(land_of_turns(land)) // 2


def best_tree(land):
    """A tree, in its form, with the least tree_load, and with no greater corner_tree_load."""
    if len(land[1]) == 1:
        return 0
    # The loads of a lot by shires and by corners are at most half of its outer border in the land of turns.
    return best_plan(land_of_turns(land))


def one_corner_borders(land):
    """The ascending tuple of the borders whose two ends are one corner."""
    return tuple([e for e, (c, d) in enumerate(all_ends(land)) if c == d])


def tree_verdict(land):
    """The least load, a tree that has it, and a border or a table that shows that none has less."""
    load = least_load(land)
    long = [e for e in range(len(land[1])) if shire_load(land, (e,)) == load]
    paper = ("border", long[0]) if long else ("table", greatest_table(land_of_turns(land), 2 * load))
    return (load, best_tree(land), paper)


def _paper_fault(land, load, paper):
    """None for what shows that no tree has a tree_load below a load, else its first fault."""
    if not isinstance(paper, tuple) or len(paper) != 2:
        return ("form",)
    word, told = paper
    if word == "table":
        return judge_table(land_of_turns(land), 2 * load, told)
    if word != "border" or not is_number(told) or not 0 <= told < len(land[1]):
        return ("form",)
    alone = shire_load(land, (told,))
    return ("border", alone) if alone < load else None


def judge_tree_verdict(land, value):
    """None for a verdict on the trees of a land of two borders or more, else its first fault."""
    if not isinstance(value, tuple) or len(value) != 3 or not is_number(value[0]) or value[0] < 1:
        return ("form",)
    load, tree, paper = value
    fault = judge_tree(land, load + 1, tree)
    if fault is not None:
        return ("tree", fault)
    fault = _paper_fault(land, load, paper)
    return ("paper", fault) if fault is not None else None
