"""[4.5] to [4.8]: plans rooted, led, put together, ladders, near plans and rows of them."""

import unittest

from foxborders.plans import (formed, is_ladder, is_plan, judge_between, ladder, led, lots_of, near_plans, plans_between,
                              put_plans, rooted, width)
from tests import plans_oracle as oracle
from tests.lands import LANDS, Dice
from tests.values import changes, exact, odd_values, unchanged

ALL = {n: oracle.all_plans(n) for n in range(1, 7)}


def rooted_lots(plan, s):
    shires = set(oracle.leaves(plan))
    told = {(s,), tuple(sorted(shires))}
    for lot in oracle.lots(plan):
        if s not in lot:
            told.add(lot)
        elif set(lot) != shires:
            told.add(tuple(sorted(shires - set(lot))))
    return tuple(sorted(told))


class Rooted(unittest.TestCase):

    def check(self, plan, s):
        told = unchanged(self, rooted, plan, s)
        self.assertEqual(lots_of(told), rooted_lots(plan, s))
        self.assertEqual(exact(told), exact(oracle.in_form(told)))
        # It joins s last.
        self.assertIn(s, told)

    def test_small_plans(self):
        for n in range(2, 7):
            for plan in ALL[n]:
                for s in range(n):
                    self.check(plan, s)

    def test_rooted_again(self):
        for n in range(2, 6):
            for plan in ALL[n]:
                for s in range(n):
                    for t in range(n):
                        self.assertEqual(rooted(rooted(plan, t), s), rooted(plan, s))

    def test_two_shires_and_many(self):
        self.assertEqual([rooted((1, 0), 0), rooted((0, 1), 1), rooted((900, 3), 900)], [(0, 1), (0, 1), (3, 900)])
        dice = Dice(2)
        for _ in range(10):
            shires = dice.shuffled(range(1000))[:24]
            self.check(oracle.random_plan(dice, shires), shires[dice.below(24)])

    def test_width(self):
        for land in LANDS:
            dice = Dice(land[0])
            plan = oracle.random_plan(dice, range(land[0]))
            for s in range(min(land[0], 5)):
                self.assertEqual(width(land, rooted(plan, s)), width(land, plan))


class Led(unittest.TestCase):

    def test_led(self):
        dice = Dice(9)
        for many in (1, 2, 3, 6, 24):
            for _ in range(10):
                plan = oracle.random_plan(dice, range(many))
                names = tuple(dice.shuffled(range(1000))[:many + dice.below(3)])
                told = unchanged(self, led, plan, names)
                self.assertEqual(lots_of(told), tuple(sorted(tuple(sorted(names[s] for s in lot)) for lot in oracle.lots(plan))))
                self.assertEqual(exact(told), exact(oracle.in_form(told)))
        self.assertEqual(led(3, (9, 9, 9, 4)), 4)
        # All at once: what is exchanged stays exchanged.
        self.assertEqual(led(((0, 1), 2), (1, 2, 0)), (0, (1, 2)))


class PutTogether(unittest.TestCase):

    def expected(self, one, s, other, t):
        n, m = len(oracle.leaves(one)), len(oracle.leaves(other))
        behind = list(range(n, n + m - 1))
        names = {u: behind.pop(0) for u in range(m) if u != t}
        names[t] = s
        far = [tuple(sorted(names[u] for u in lot)) for lot in rooted_lots(other, t)]
        grown = [lot + tuple(range(n, n + m - 1)) if s in lot else lot for lot in oracle.lots(one)]
        return tuple(sorted(set(far + grown)))

    def test_small_plans(self):
        for n in range(1, 5):
            for m in range(2, 5):
                for one in ALL[n][::2]:
                    for other in ALL[m][::3]:
                        for s in range(n):
                            for t in range(m):
                                told = unchanged(self, put_plans, one, s, other, t)
                                self.assertTrue(is_plan(n + m - 1, told))
                                self.assertEqual(lots_of(told), self.expected(one, s, other, t))
                                self.assertEqual(told, oracle.in_form(told))

    def test_one_shire(self):
        self.assertEqual(put_plans(0, 0, (0, 1), 0), (0, 1))
        self.assertEqual(put_plans(0, 0, (0, 1), 1), (0, 1))
        self.assertEqual(put_plans((0, 1), 0, (1, 0), 1), ((0, 2), 1))

    def test_not_in_their_form(self):
        dice = Dice(5)
        for _ in range(30):
            n, m = 1 + dice.below(12), 2 + dice.below(11)
            one, other = oracle.random_plan(dice, range(n)), oracle.random_plan(dice, range(m))
            s, t = dice.below(n), dice.below(m)
            self.assertEqual(lots_of(put_plans(one, s, other, t)), self.expected(one, s, other, t))


class Ladders(unittest.TestCase):

    def test_ladders(self):
        dice = Dice(77)
        for many in (1, 2, 3, 5, 10, 24):
            order = tuple(dice.shuffled(range(many)))
            told = unchanged(self, ladder, order)
            self.assertIs(is_ladder(told), True)
            begun = [tuple(sorted(order[:k])) for k in range(1, many + 1)]
            self.assertEqual(lots_of(told), tuple(sorted(set(begun + [(s,) for s in order]))))
            self.assertEqual(told, oracle.in_form(told))
        self.assertEqual(ladder((4,)), 4)
        self.assertEqual(ladder((9, 2, 5)), ((2, 9), 5))

    def test_is_ladder(self):
        for n in range(1, 7):
            for plan in ALL[n]:
                # A ladder has a chain of lots of more than one shire.
                chain = sorted((lot for lot in oracle.lots(plan) if len(lot) > 1), key=len)
                right = all(set(one) < set(other) for one, other in zip(chain, chain[1:]))
                self.assertIs(unchanged(self, is_ladder, plan), right)
        self.assertIs(is_ladder((3, ((1, 0), 2))), True)

    def test_width(self):
        for land in LANDS:
            order = tuple(Dice(land[1][0][1]).shuffled(range(land[0])))
            lots = [(s,) for s in order] + [order[:k] for k in range(1, land[0])]
            self.assertEqual(width(land, ladder(order)), max(oracle.cut(land, lot) for lot in lots))


class Near(unittest.TestCase):

    def test_all_small_plans(self):
        for n in range(1, 6):
            for plan in ALL[n]:
                near = [other for other in ALL[n] if oracle.are_near(plan, other)]
                self.assertEqual(len(near), 2 * max(n - 2, 0))
                self.assertEqual(unchanged(self, near_plans, plan), tuple(sorted(near, key=oracle.lots)))

    def test_not_in_their_form(self):
        dice = Dice(3)
        for many in (3, 4, 7, 10):
            for _ in range(8):
                shires = dice.shuffled(range(1000))[:many]
                plan = oracle.random_plan(dice, shires)
                near = near_plans(plan)
                self.assertEqual(near, near_plans(formed(plan)))
                self.assertEqual(len(set(map(lots_of, near))), 2 * (many - 2))
                self.assertEqual(sorted(map(lots_of, near)), list(map(lots_of, near)))
                for other in near:
                    self.assertTrue(oracle.are_near(plan, other))
                    self.assertEqual(other, oracle.in_form(other))
                    self.assertIn(formed(plan), near_plans(other))

    def test_where_they_join_otherwise(self):
        # (0, 1) is joined with (2, 3): 0 joins the latter first, or 1; or it is joined with 2 first, or with 3.
        told = {(0, (1, (2, 3))), ((0, (2, 3)), 1), (((0, 1), 2), 3), (((0, 1), 3), 2)}
        self.assertEqual(set(near_plans(((3, 2), (1, 0)))), told)
        self.assertEqual(near_plans(5), ())


class Between(unittest.TestCase):

    def test_all_small_plans(self):
        for n in range(1, 5):
            for one in ALL[n]:
                for other in ALL[n]:
                    told = unchanged(self, plans_between, one, other)
                    self.assertIsNone(oracle.between_fault(one, other, told))
                    self.assertIsNone(judge_between(one, other, told))

    def test_ten_shires_not_in_their_form(self):
        dice = Dice(21)
        for many in (1, 2, 5, 8, 10, 10, 10):
            for _ in range(5):
                one, other = oracle.random_plan(dice, range(many)), oracle.random_plan(dice, range(many))
                told = unchanged(self, plans_between, one, other)
                self.assertIsNone(oracle.between_fault(one, other, told))
                self.assertIsNone(judge_between(one, other, told))


class BetweenJudged(unittest.TestCase):

    def judged(self, one, other, value):
        fault = oracle.between_fault(one, other, value)
        self.assertEqual(exact(unchanged(self, judge_between, one, other, value)), exact(fault), (one, other, value))
        return fault and fault[0]

    def test_any_value(self):
        for value in odd_values():
            self.assertEqual(judge_between((0, 1), (1, 0), value), ("form",))

    def test_form(self):
        one, other = ((0, 1), 2), (0, (1, 2))
        for value in ((), [one, other], (list(one), other), (one, (1, (0, 2))), (one, (0, (2, 1))), (one, (0, 1)), (one, None),
                      (((0, 1), 3), other), (((0, True), 2), other), (((False, 1), 2), other), (one, ((0, 1), 2, 3)), (0,),
                      (one, (0, [1, 2])), one, other):
            self.assertEqual(judge_between(one, other, value), ("form",), value)

    def test_plans_of_one_and_two_shires(self):
        self.assertIsNone(judge_between(0, 0, (0,)))
        self.assertEqual(judge_between(0, 0, (0, 0)), ("step", 1))
        self.assertEqual(judge_between(0, 0, 0), ("form",))
        self.assertEqual(judge_between(0, 0, (False,)), ("form",))
        self.assertIsNone(judge_between((1, 0), (0, 1), ((0, 1),)))
        self.assertEqual(judge_between((1, 0), (0, 1), ((1, 0),)), ("form",))
        # It may come to a plan again.
        one, other = ((0, 1), 2), (0, (1, 2))
        self.assertIsNone(judge_between(one, one, (one, other, one)))
        self.assertEqual(judge_between(one, other, (one, other, one)), ("ends",))
        self.assertEqual(judge_between(one, other, (other, other, one)), ("begins",))
        self.assertEqual(judge_between(one, other, (one, other, other, one)), ("step", 2))

    def test_at_random(self):
        dice = Dice(31)
        told = []
        for _ in range(600):
            n = 3 + dice.below(3)
            one, other = dice.pick(ALL[n]), dice.pick(ALL[n])
            value = list(plans_between(one, other))
            for _ in range(dice.below(2)):
                place = dice.below(len(value) + 1)
                value[place:place + dice.below(3)] = dice.pick(([dice.pick(ALL[n])], [], [(1, (0, 2))], [one]))
            told.append(self.judged(one, other, tuple(value)))
        self.assertEqual(set(told), {None, "form", "begins", "step", "ends"})

    def test_one_part_changed(self):
        one, other = ((0, 1), (2, 3)), ((0, 3), (1, 2))
        for value in changes(plans_between(one, other)):
            self.judged(one, other, value)

    def test_many_plans(self):
        one, other = ((0, 1), 2), (0, (1, 2))
        self.assertIsNone(judge_between(one, other, (one, other) * 190))
        self.assertEqual(judge_between(one, one, (one, other) * 190), ("ends",))
        self.assertEqual(judge_between(0, 0, (0,) * 1999), ("step", 1))
