"""[7.3], [7.5] and [7.6]: what judges tell of papers, of what is told, of rows of joins, of verdicts, of any value."""

import unittest

from foxborders.land import outer_border
from foxborders.tables import judge_table
from foxborders.verdicts import (best_joins, judge_joins, judge_paper, judge_told, judge_verdict, least_width, told_for,
                                 verdict)
from tests.changes_oracle import joined_land
from tests.lands import BY_HAND, FOUR, GROWN, ONE, RING, ROW, TRIPLE, WOVEN, Dice
from tests.plans_oracle import in_form, plan_fault, whole
from tests.tables_oracle import Ground
from tests.values import changes, exact, odd_values, unchanged

MOST = 10 ** 12 - 1
LANDS = BY_HAND + GROWN[:12] + WOVEN[:12]


def paper_fault(land, k, value, ground=None):
    if type(value) is tuple and len(value) == 2 and type(value[0]) is str:
        word, told = value
        if word == "table":
            return (ground or Ground(land, k)).fault(told)
        if word == "shire" and whole(told) and told in range(land[0]):
            length = outer_border(land, (told,))
            return None if length >= k else ("short", length)
    return ("form",)


def told_fault(land, k, value, ground=None):
    if type(value) is tuple and len(value) == 2 and value[0] == "plan":
        return plan_fault(land, k, value[1])
    return paper_fault(land, k, value, ground)


def plan_by_joins(land, row):
    """The plan and None, or None and the place of the first number that is no border."""
    plans = {s: s for s in range(land[0])}
    left = land
    for i, e in enumerate(row):
        if e not in range(len(left[1])):
            return None, i
        a, b = left[1][e]
        grown = {a: (plans[a], plans[b])}
        grown.update({s - (s > b): plans[s] for s in plans if s not in (a, b)})
        plans, left = grown, joined_land(left, e)
    return in_form((plans[0], plans[1])), None


def joins_fault(land, k, value):
    if type(value) is not tuple or len(value) != land[0] - 2 or not all(map(whole, value)):
        return ("form",)
    plan, place = plan_by_joins(land, value)
    return plan_fault(land, k, plan) if place is None else ("border", place)


def verdict_fault(land, value):
    if type(value) is not tuple or len(value) != 3 or not whole(value[0]) or value[0] < 1:
        return ("form",)
    fault = plan_fault(land, value[0] + 1, value[1])
    if fault is not None:
        return ("plan", fault)
    fault = paper_fault(land, value[0], value[2])
    return ("paper", fault) if fault is not None else None


def numbers_for(land):
    least = least_width(land)
    return sorted({1, max(least - 1, 1), least, least + 1, MOST})


class Papers(unittest.TestCase):

    def judged(self, land, k, value, ground=None):
        fault = paper_fault(land, k, value, ground)
        self.assertEqual(exact(unchanged(self, judge_paper, land, k, value)), exact(fault), (k, value))
        told = told_fault(land, k, value, ground)
        self.assertEqual(exact(unchanged(self, judge_told, land, k, value)), exact(told), (k, value))
        return fault and fault[0]

    def test_any_value(self):
        for value in odd_values():
            for land in (ONE, FOUR):
                self.assertEqual(judge_paper(land, 1, value), ("form",))
                self.assertEqual(judge_told(land, 1, value), ("form",))
                for word in ("shire", "table", "plan", "", None):
                    self.judged(land, 4, (word, value))

    def test_form(self):
        for value in (("shire", 4), ("shire", -1), ("shire", True), ("shire", False), ("shire", "0"), ("shire", None), ("shire",),
                      ("shire", 0, 0), ["shire", 0], ("Shire", 0), ("shires", 0), ("", 0), (0, "shire"), ("shire", (0,)), "shire",
                      ("table",), ["table", ()], ("tables", ()), ("table", (), ()), (("shire",), 0), ("shire", [0]), None):
            self.assertEqual(judge_paper(FOUR, 1, value), ("form",), value)
            self.assertEqual(judge_told(FOUR, 1, value), ("form",), value)
        # A plan is no paper.
        self.assertEqual(judge_paper(FOUR, 9, ("plan", ((0, 1), (2, 3)))), ("form",))
        self.assertIsNone(judge_told(FOUR, 9, ("plan", ((0, 1), (2, 3)))))
        self.assertEqual(judge_told(FOUR, 9, ["plan", ((0, 1), (2, 3))]), ("form",))
        self.assertEqual(judge_told(FOUR, 9, ("plan", [0, 1])), ("form",))

    def test_short(self):
        for land in LANDS:
            for s in range(land[0]):
                length = outer_border(land, (s,))
                self.assertIsNone(judge_paper(land, length, ("shire", s)))
                self.assertEqual(judge_paper(land, length + 1, ("shire", s)), ("short", length))
                self.assertEqual(judge_paper(land, MOST, ("shire", s)), ("short", length) if length < MOST else None)

    def test_tables(self):
        for land in WOVEN[:20]:
            for k in numbers_for(land):
                told = told_for(land, k)
                if told[0] == "table":
                    self.assertIsNone(judge_paper(land, k, told))
                    self.assertIsNone(judge_paper(land, 1, told))
                    at, along = told[1]
                    for value in ((at, along[:-1]), (at, along[::-1]), (at[::-1], along), (at, ((0, 1, 2, 3),) * len(along))):
                        self.assertEqual(judge_paper(land, k, ("table", value)), judge_table(land, k, value))

    def test_one_part_changed(self):
        for land in (FOUR, RING):
            for k in numbers_for(land)[1:4]:
                ground = Ground(land, k)
                for value in changes(told_for(land, k)):
                    self.judged(land, k, value, ground)


class Joins(unittest.TestCase):

    def judged(self, land, k, value):
        fault = joins_fault(land, k, value)
        self.assertEqual(exact(unchanged(self, judge_joins, land, k, value)), exact(fault), (k, value))
        return fault and fault[0]

    def test_any_value(self):
        for value in odd_values():
            for land in (ONE, FOUR, RING):
                self.judged(land, 9, value)
            self.assertEqual(judge_joins(FOUR, 9, value), ("form",))
        self.assertIsNone(judge_joins(ONE, 8, ()))
        self.assertEqual(judge_joins(ONE, 7, ()), ("long", (0,), 7))
        self.assertEqual(judge_joins(TRIPLE, MOST, (0,)), ("form",))

    def test_form_and_border(self):
        for value in ([0, 0], (0,), (0, 0, 0), (0, True), (False, 0), (0, None), (0, "0"), (0, (0,)), (), "00", {0: 0, 1: 0}, None,
                      (9, True), (-1, None)):
            self.assertEqual(judge_joins(FOUR, MOST, value), ("form",), value)
        for value, i in (((6, 0), 0), ((-1, 0), 0), ((0, 5), 1), ((0, -1), 1), ((6, 9), 0), ((10 ** 59, 0), 0), ((0, -10 ** 59), 1),
                         ((5, 5), 1)):
            self.assertEqual(judge_joins(FOUR, MOST, value), ("border", i), value)
        # How many borders go with the first join tells which numbers there are then.
        land = (3, ((0, 1), (0, 1), (0, 2), (1, 2)), ((0, 1, 2), (1, 0, 3), (3, 2)), (1, 1, 1, 1))
        self.assertIsNone(judge_joins(land, 9, (3,)))
        self.assertEqual(judge_joins(land, 9, (4,)), ("border", 0))
        for e in range(5):
            self.judged(land, 9, (e,))

    def test_at_random(self):
        dice = Dice(88)
        told = []
        for land in LANDS:
            for k in numbers_for(land):
                for _ in range(8):
                    row = list(best_joins(land)) if land[0] < 9 and dice.below(2) else [
                        dice.below(len(land[1])) for _ in range(land[0] - 2)]
                    if row and dice.below(2):
                        row[dice.below(len(row))] = dice.below(len(land[1]) + 1)
                    told.append(self.judged(land, k, tuple(row)))
        self.assertEqual(set(told), {None, "border", "long"})

    def test_one_part_changed(self):
        for land in (ROW, RING, WOVEN[1]):
            k = least_width(land) + 1
            for value in changes(best_joins(land)):
                self.judged(land, k, value)


class Verdicts(unittest.TestCase):

    def judged(self, land, value):
        fault = verdict_fault(land, value)
        self.assertEqual(exact(unchanged(self, judge_verdict, land, value)), exact(fault), value)
        return fault and fault[0]

    def test_any_value(self):
        for value in odd_values():
            self.assertEqual(judge_verdict(FOUR, value), ("form",))
            self.judged(FOUR, (value, ((0, 1), (2, 3)), ("shire", 3)))
            self.judged(FOUR, (4, value, ("shire", 3)))
            self.judged(FOUR, (4, ((0, 1), (2, 3)), value))

    def test_form(self):
        good = verdict(RING)
        self.assertEqual(good[0], 2)
        for value in (list(good), good[:2], good + (1,), (True,) + good[1:], (0,) + good[1:], (-2,) + good[1:], ("2",) + good[1:],
                      (None,) + good[1:], ((2,),) + good[1:], {0: 2, 1: 0, 2: 0}, (), "abc"):
            self.assertEqual(judge_verdict(RING, value), ("form",), value)

    def test_another_width(self):
        for land in LANDS:
            least, plan, paper = verdict(land)
            self.assertIsNone(self.judged(land, (least, plan, paper)))
            for other in (1, least - 1, least + 1, 10 ** 59):
                if other > 0 and other != least:
                    word = "plan" if other < least else "paper"
                    self.assertEqual(self.judged(land, (other, plan, paper)), word)

    def test_sequence_of_faults(self):
        self.assertEqual(judge_verdict(RING, (1, None, None)), ("plan", ("form",)))
        self.assertEqual(judge_verdict(RING, (1, (0, 1), None)), ("plan", ("shire", 2)))
        self.assertEqual(judge_verdict(RING, (1, ((0, 1), (2, 3)), None)), ("plan", ("long", (0,), 2)))
        self.assertEqual(judge_verdict(RING, (2, ((0, 1), (2, 3)), None)), ("paper", ("form",)))
        self.assertEqual(judge_verdict(RING, (3, ((0, 1), (2, 3)), ("shire", 0))), ("paper", ("short", 2)))
        self.assertEqual(judge_verdict(RING, (2, ((0, 1), (2, 3)), ("table", ()))), ("paper", ("form",)))
        # A wider plan and a paper for it are none: the paper is too short.
        self.assertEqual(judge_verdict(RING, (4, ((0, 2), (1, 3)), ("shire", 0))), ("paper", ("short", 2)))

    def test_one_part_changed(self):
        for land in (ONE, ROW, RING):
            for value in changes(verdict(land)):
                self.judged(land, value)
