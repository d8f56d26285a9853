"""[4.1] to [4.4]: lots, plans, their form and lots, and widths."""

import unittest

from foxborders.land import outer_border, outer_borders, whole_length
from foxborders.plans import (formed, is_lot, is_plan, judge_lots, judge_plan, lots_of, plan_of, rest_of, shires_of,
                              widest, width)
from foxborders.texts import read_plan
from tests import plans_oracle as oracle
from tests.lands import BY_HAND, FOUR, LANDS, ONE, RING, ROW, TRIPLE, Dice
from tests.values import changes, exact, nested, odd_values, unchanged

ALL = {n: oracle.all_plans(n) for n in range(1, 7)}
DEEP = nested(23, lambda plan: (plan, len(oracle.leaves(plan))), 0)


class Lots(unittest.TestCase):

    def test_lots(self):
        for n in (1, 2, 3, 5, 24):
            for value in ((0,), (0, 1), (1, 0), (0, 0), (), (n - 1,), (n,), (-1, 0), (-1,), tuple(range(n)), tuple(range(n + 1)),
                          (0, 2), (0, 1, 1), (True,), (0, True), (False,), (False, 1), [0], (0, None), ("0",), ((0,),), "0", None,
                          {0: 1}, (10 ** 59,), (0, [1])):
                self.assertIs(unchanged(self, is_lot, n, value), oracle.is_a_lot(n, value), (n, value))

    def test_any_value(self):
        for value in odd_values():
            self.assertIs(is_lot(24, value), oracle.is_a_lot(24, value))

    def test_rest(self):
        self.assertEqual(rest_of(4, (0, 1, 2, 3)), ())
        self.assertEqual(rest_of(1, (0,)), ())
        for n in (2, 3, 7, 24):
            for bits in range(1, min(2 ** n, 300)):
                lot = tuple(s for s in range(n) if bits >> s & 1)
                self.assertEqual(unchanged(self, rest_of, n, lot), tuple(sorted(set(range(n)) - set(lot))))

    def test_outer_border_is_0_for_all_alone(self):
        for land in BY_HAND:
            for bits in range(1, 2 ** land[0]):
                lot = tuple(s for s in range(land[0]) if bits >> s & 1)
                self.assertEqual(outer_border(land, lot) == 0, rest_of(land[0], lot) == ())


class Plans(unittest.TestCase):

    def test_all_small_plans(self):
        self.assertEqual([len(ALL[n]) for n in range(1, 7)], [1, 1, 3, 15, 105, 945])
        for n, plans in ALL.items():
            for plan in plans:
                self.assertIs(is_plan(n, plan), True)
                self.assertIs(is_plan(n + 1, plan), False)
                self.assertIs(is_plan(n - 1, plan), False)
                self.assertEqual(shires_of(plan), tuple(range(n)))
                self.assertEqual(formed(plan), plan)

    def test_any_value(self):
        for value in odd_values():
            for n in (1, 2, 24):
                self.assertIs(is_plan(n, value), value.__class__ is int and value == 0 and n == 1, value)
        for value in (True, False, (0, True), (False, 1), [0, 1], (0, [1]), (0, 1, 2), (0,), ((0, 1),), (0, None), "01", (0, "1"),
                      (0, 0), (0, 2), (-1, 0), {0: 1}, (0, 10 ** 59)):
            self.assertIs(is_plan(2, value), False, value)
        self.assertIs(is_plan(2, (1, 0)), True)
        for plan in (ALL[3][0], ALL[4][7], (1, (0, 2))):
            for value in changes(plan):
                n = len(oracle.leaves(plan))
                right = oracle.is_a_plan(value) and sorted(oracle.leaves(value)) == list(range(n))
                self.assertIs(unchanged(self, is_plan, n, value), right, value)

    def test_deep_values(self):
        self.assertIs(is_plan(24, DEEP), True)
        self.assertIs(is_plan(1, nested(40, lambda value: (value, 0), 0)), False)
        # What was read may be a hundred pairs deep, also put into more.
        read = read_plan("plan " + "(" * 100 + "0" + " 1)" * 100)
        self.assertIs(is_plan(2, read), False)
        self.assertIs(is_plan(2, ((read, read), (read, 7))), False)
        self.assertEqual(judge_plan(ONE, 9, read), ("shire", 1))

    def test_form(self):
        dice = Dice(6)
        for many in list(range(1, 12)) + [24]:
            for _ in range(10):
                shires = sorted(dice.shuffled(range(1000 if many % 2 else many))[:many])
                plan = oracle.random_plan(dice, shires)
                told = unchanged(self, formed, plan)
                self.assertEqual(exact(told), exact(oracle.in_form(plan)))
                self.assertEqual(formed(told), told)
                self.assertEqual(shires_of(plan), tuple(shires))
                self.assertEqual(exact(unchanged(self, lots_of, plan)), exact(oracle.lots(plan)))
        self.assertEqual(formed(DEEP), DEEP)
        self.assertEqual(formed(7), 7)
        self.assertEqual(lots_of(7), ((7,),))

    def test_lots_of(self):
        for n, plans in ALL.items():
            seen = {}
            for plan in plans:
                lots = lots_of(plan)
                self.assertEqual(lots, oracle.lots(plan))
                self.assertEqual(len(set(lots)), 2 * n - 1)
                for one in map(set, lots):
                    for other in map(set, lots):
                        self.assertTrue(not one & other or one <= other or other <= one)
                self.assertIsNone(judge_lots(n, lots))
                self.assertEqual(unchanged(self, plan_of, n, lots), plan)
                seen[lots] = True
            # The same lots have the same form alone.
            self.assertEqual(len(seen), len(plans))

    def test_plans_of_24_shires(self):
        dice = Dice(44)
        for _ in range(20):
            plan = oracle.random_plan(dice, range(24))
            self.assertIs(is_plan(24, plan), True)
            self.assertIsNone(judge_lots(24, lots_of(plan)))
            self.assertEqual(plan_of(24, lots_of(plan)), oracle.in_form(plan))


class LotsJudged(unittest.TestCase):

    def judged(self, n, value):
        fault = oracle.lots_fault(n, value)
        self.assertEqual(exact(unchanged(self, judge_lots, n, value)), exact(fault), (n, value))
        return fault and fault[0]

    def test_any_value(self):
        for value in odd_values():
            self.assertEqual(judge_lots(5, value), ("form",) if value != () else ("many", 0))

    def test_form(self):
        good = lots_of(((0, 1), 2))
        self.assertEqual(good, ((0,), (0, 1), (0, 1, 2), (1,), (2,)))
        for value in (list(good), good + good[-1:], good[::-1], good + ((3,),), ((),) + good, good[:-1] + ([2],), good + ((),),
                      ((False,),) + good[1:], ((0,), (0, True)) + good[2:], ((-1,),) + good, ((0,), (0, 0)), ((1, 0),), (0,),
                      good[:2] + ((0, 2, 1),) + good[3:], ((0,), (0,)), ("0",), ((0,), None)):
            self.assertEqual(judge_lots(3, value), ("form",), value)

    def test_cross_and_many(self):
        self.assertEqual(judge_lots(4, ((0, 1), (0, 2), (1, 2))), ("cross", 0, 1))
        self.assertEqual(judge_lots(4, ((0,), (0, 1), (1,), (1, 2), (2, 3))), ("cross", 1, 3))
        self.assertEqual(judge_lots(4, ((0, 1), (2, 3))), ("many", 2))
        self.assertEqual(judge_lots(1, ()), ("many", 0))
        self.assertIsNone(judge_lots(1, ((0,),)))
        # A form that is wrong goes ahead of all that cross.
        self.assertEqual(judge_lots(3, ((0, 1), (0, 2), (3,))), ("form",))

    def test_at_random(self):
        dice = Dice(8)
        told = []
        for _ in range(3000):
            n = 1 + dice.below(5)
            lots = list(oracle.lots(dice.pick(ALL[n])))
            for _ in range(dice.below(4)):
                place = dice.below(len(lots) + 1)
                lots[place:place + dice.below(2)] = [tuple(sorted(dice.shuffled(range(n))[:1 + dice.below(n)]))]
            if dice.below(4):
                lots = sorted(set(lots))
            told.append(self.judged(n, tuple(lots)))
        self.assertEqual(set(told), {None, "form", "cross", "many"})

    def test_one_part_changed(self):
        for plan in (ALL[2][0], ALL[3][1], ALL[4][5]):
            for value in changes(lots_of(plan)):
                self.judged(len(oracle.leaves(plan)), value)

    def test_no_more_than_a_plan_has(self):
        # Lots that do not cross are never more than those of a plan; if they are as many, they are a plan's.
        n = 3
        lots = [tuple(s for s in range(n) if bits >> s & 1) for bits in range(1, 2 ** n)]
        found = 0
        for chosen in range(2 ** len(lots)):
            value = tuple(sorted(lot for at, lot in enumerate(lots) if chosen >> at & 1))
            fault = judge_lots(n, value)
            self.assertEqual(fault, oracle.lots_fault(n, value))
            if fault is None:
                found += 1
                self.assertEqual(lots_of(plan_of(n, value)), value)
        self.assertEqual(found, len(ALL[n]))

    def test_many_lots(self):
        value = tuple(sorted((s, t) for s in range(24) for t in range(s + 1, 24)))
        self.assertEqual(judge_lots(24, value), ("cross", 0, 1))
        self.assertEqual(judge_lots(24, tuple((s,) for s in range(24))), ("many", 24))


class Widths(unittest.TestCase):

    def test_widths(self):
        for land in LANDS:
            dice = Dice(land[0])
            for _ in range(6):
                plan = oracle.random_plan(dice, range(land[0]))
                told = unchanged(self, width, land, plan)
                self.assertEqual(exact(told), exact(oracle.plan_width(land, plan)))
                self.assertEqual(width(land, formed(plan)), told)
                self.assertGreaterEqual(told, max(outer_borders(land)))
                self.assertLessEqual(told, whole_length(land))
                lot = unchanged(self, widest, land, plan)
                self.assertEqual(lot, min(lot for lot in oracle.lots(plan) if oracle.cut(land, lot) == told))

    def test_widest_of_several(self):
        self.assertEqual(widest(RING, ((2, 3), (1, 0))), (0,))
        self.assertEqual(widest(ONE, (1, 0)), (0,))
        self.assertEqual(widest(ROW, ((0, 3), (2, 1))), (2,))


class PlansJudged(unittest.TestCase):

    def judged(self, land, k, value):
        fault = oracle.plan_fault(land, k, value)
        self.assertEqual(exact(unchanged(self, judge_plan, land, k, value)), exact(fault), (k, value))
        return fault and fault[0]

    def test_any_value(self):
        for value in odd_values():
            if value.__class__ is int and value in (0, 1, 2):
                self.assertEqual(judge_plan(FOUR, 9, value), ("shire", 0 if value else 1))
            else:
                self.assertEqual(judge_plan(FOUR, 9, value), ("form",), value)

    def test_form(self):
        for value in ([0, 1], (0, [1]), (0, True), (False, 1), (0, 1, 0), (0,), (0, 2), (-1, 0), (0, -1), (0, None), ("0", 1),
                      (0, (1, 2)), ((0, 1), 2), (2, (0, 0)), (0, (0, (0, 7))), (0, 10 ** 59), {0: 1}):
            self.assertEqual(judge_plan(TRIPLE, 10 ** 12, value), ("form",))

    def test_shire(self):
        for value, s in ((0, 1), (1, 0), ((0, 0), 0), ((1, 1), 0), (((0, 1), (0, 1)), 0), ((0, (1, 1)), 1), ((1, (1, 0)), 1)):
            self.assertEqual(judge_plan(TRIPLE, 0, value), ("shire", s))
        self.assertEqual(judge_plan(FOUR, 0, ((0, 1), (3, 3))), ("shire", 2))

    def test_long(self):
        self.assertEqual(judge_plan(RING, 2, ((1, 3), (2, 0))), ("long", (0,), 2))
        self.assertEqual(judge_plan(RING, 3, ((1, 3), (2, 0))), ("long", (0, 2), 4))
        self.assertEqual(judge_plan(RING, 4, ((1, 3), (2, 0))), ("long", (0, 2), 4))
        self.assertIsNone(judge_plan(RING, 5, ((1, 3), (2, 0))))
        # The lot of all shires has the outer border 0, which is as long as 0 only.
        self.assertEqual(judge_plan(RING, 0, ((0, 1), (2, 3))), ("long", (0,), 2))
        self.assertEqual(judge_plan(ONE, 7, (0, 1)), ("long", (0,), 7))
        self.assertIsNone(judge_plan(ONE, 8, (1, 0)))

    def test_at_and_above_the_width(self):
        for land in LANDS:
            dice = Dice(land[0] + 1)
            plan = oracle.random_plan(dice, range(land[0]))
            told = width(land, plan)
            self.assertIsNone(judge_plan(land, told + 1, plan))
            self.assertEqual(judge_plan(land, told, plan), ("long", widest(land, plan), told))
            for k in (0, told // 2, told, told + 1, 10 ** 12 - 1):
                self.judged(land, k, plan)

    def test_one_part_changed(self):
        for land, plan in ((TRIPLE, (0, 1)), (ROW, ((0, 1), (2, 3))), (RING, (((3, 1), 0), 2)), (FOUR, (0, (1, (2, 3))))):
            for k in (1, width(land, plan), width(land, plan) + 1):
                for value in changes(plan):
                    self.judged(land, k, value)

    def test_at_random(self):
        dice = Dice(13)
        told = []
        for _ in range(1500):
            land = dice.pick([land for land in LANDS if land[0] < 8])
            shires = [dice.below(land[0] + dice.below(2)) if dice.below(12) == 0 else s for s in range(land[0])]
            plan = oracle.random_plan(dice, shires)
            told.append(self.judged(land, dice.pick((0, 3, 20, 10 ** 9, 10 ** 12 - 1)), plan))
        self.assertEqual(set(told), {None, "form", "shire", "long"})
