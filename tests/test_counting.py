"""[10.1] to [10.6]: plans below a number, their sequence, lots that stand in them, plans by neighbours, in pieces."""

import unittest

from foxborders.changes import parting_shires
from foxborders.counting import (least_with, plan_at, plan_number, plan_with, plans_below, plans_by_neighbours,
                                 plans_in_pieces, plans_with, standing_lots, sure_lots)
from foxborders.land import outer_border
from foxborders.plans import lots_of, rooted, width
from foxborders.verdicts import best_plan, is_below, least_width
from tests.changes_oracle import all_lots
from tests.counting_oracle import Listed, is_in_pieces, joins_neighbours, key
from tests.lands import (BY_HAND, FOUR, GROWN, ONE, RING, ROW, STAR, TRIPLE, WOVEN, Dice, board, grown_land, prism,
                         woven_land)
from tests.plans_oracle import in_form, random_plan
from tests.values import exact, unchanged

MOST = 10 ** 11 - 1
# Of all of these all plans are listed.
UP_TO_SIX = tuple(land for land in BY_HAND + GROWN[:40] + WOVEN[:30] if land[0] <= 6) + (board(2, 3), board(3, 2, (2, 1, 1)), prism(3))
SMALL = UP_TO_SIX[::3] + (prism(3), WOVEN[2])
# As large as callers may pass them, and some more.
TEN = (grown_land(61, 10, 60, 999999999), woven_land(62, 10, 3), prism(5), board(2, 5), board(3, 3, (3, 1, 4, 1, 5)),
       grown_land(63, 10, 9), grown_land(64, 10, 60, 1), woven_land(65, 9, 999999999), grown_land(66, 2, 60, 9), woven_land(67, 8, 2))


def odd_product(n):
    many = 1
    for odd in range(1, 2 * n - 2, 2):
        many *= odd
    return many


def swapped(plan):
    """The plan with the two of each pair exchanged."""
    return (swapped(plan[1]), swapped(plan[0])) if isinstance(plan, tuple) else plan


# Eight corners of three sides each: without shires 1 and 4 the others are wider than all.
EIGHT_SIDES = (6, ((1, 3), (0, 5), (1, 2), (3, 4), (0, 3), (3, 5), (4, 5), (2, 3), (2, 5), (0, 2), (0, 1), (2, 4)),
               ((1, 4, 10, 9), (2, 10, 0), (2, 7, 11, 8, 9), (7, 0, 4, 5, 3), (11, 3, 6), (1, 8, 6, 5)), (1,) * 12)


class ByAllPlans(unittest.TestCase):

    def test_counts(self):
        for land in UP_TO_SIX:
            listed = Listed(land)
            near = [plan for plan in listed.plans if joins_neighbours(land, plan)]
            whole = [plan for plan in listed.plans if is_in_pieces(land, plan)]
            for k in listed.numbers()[::1 + len(listed.numbers()) // 25] + [MOST]:
                below = listed.below(k)
                self.assertEqual(exact(unchanged(self, plans_below, land, k)), exact(len(below)))
                kept = set(below)
                self.assertEqual(exact(unchanged(self, plans_by_neighbours, land, k)), exact(len([p for p in near if p in kept])))
                self.assertEqual(exact(unchanged(self, plans_in_pieces, land, k)), exact(len([p for p in whole if p in kept])))

    def test_numbers(self):
        for land in SMALL:
            listed = Listed(land)
            dice = Dice(len(listed.plans))
            for k in listed.numbers()[::1 + len(listed.numbers()) // 5] + [MOST]:
                below = listed.below(k)
                for i, plan in list(enumerate(below))[::1 + len(below) // 20]:
                    self.assertEqual(exact(unchanged(self, plan_at, land, k, i)), exact(plan))
                    self.assertEqual(exact(unchanged(self, plan_number, land, k, plan)), exact(i))
                    self.assertEqual(plan_number(land, k, swapped(plan)), i)
                for _ in range(10):
                    plan = dice.pick(listed.plans)
                    expected = below.index(plan) if plan in below else None
                    self.assertEqual(exact(plan_number(land, k, plan)), exact(expected))

    def test_all_numbers(self):
        for land in (ONE, STAR, RING, FOUR, board(1, 5), WOVEN[7]):
            listed = Listed(land)
            for k in (least_width(land) + 1, MOST):
                told = [plan_at(land, k, i) for i in range(plans_below(land, k))]
                self.assertEqual(told, listed.below(k))

    def test_lots(self):
        for land in SMALL:
            listed = Listed(land)
            for k in listed.numbers()[::1 + len(listed.numbers()) // 6]:
                below = [set(lots_of(plan)) for plan in listed.below(k)]
                standing = sorted(set().union(*below))
                self.assertEqual(exact(unchanged(self, standing_lots, land, k)), exact(tuple(standing)))
                sure = sorted(lot for lot in standing if all(lot in told for told in below))
                self.assertEqual(exact(unchanged(self, sure_lots, land, k)), exact(tuple(sure)))
                for lot in all_lots(land[0])[::3] + [tuple(range(land[0]))]:
                    many = len([told for told in below if lot in told])
                    self.assertEqual(exact(unchanged(self, plans_with, land, k, lot)), exact(many))

    def test_least_with(self):
        for land in UP_TO_SIX[::2] + (EIGHT_SIDES,):
            listed = Listed(land)
            for lot in all_lots(land[0])[::3] + [tuple(range(land[0])), (0,), (land[0] - 2,)]:
                least = min(told for told, _ in listed.with_lot(lot))
                self.assertEqual(exact(unchanged(self, least_with, land, lot)), exact(least))
                plan = unchanged(self, plan_with, land, lot)
                self.assertEqual(exact(plan), exact(in_form(plan)))
                self.assertIn((least, plan), listed.with_lot(lot))


class What(unittest.TestCase):

    def test_all_plans(self):
        for land in UP_TO_SIX + TEN:
            self.assertEqual(plans_below(land, MOST), odd_product(land[0]))
            self.assertEqual([plans_below(land, k) for k in (-MOST, -1, 0)], [0, 0, 0])
        self.assertEqual(odd_product(10), 34459425)

    def test_about_the_least_width(self):
        for land in UP_TO_SIX + TEN:
            least = least_width(land)
            ahead = 0
            for k in (1, least - 1, least, least + 1, least + 2, 2 * least, 3 * least + 7):
                told = plans_below(land, k)
                self.assertGreaterEqual(told, ahead)
                self.assertEqual(told % (2 * land[0] - 3), 0)
                self.assertEqual(told > 0, k > least)
                ahead = told
                near, whole = plans_by_neighbours(land, k), plans_in_pieces(land, k)
                self.assertLessEqual(whole, near)
                self.assertLessEqual(near, told)
                self.assertEqual(near > 0, told > 0)
                self.assertEqual(whole > 0, told > 0 and parting_shires(land) == ())
                self.assertEqual(standing_lots(land, k) == (), told == 0)
                self.assertEqual(sure_lots(land, k) == (), told == 0)

    def test_lots_and_rests(self):
        for land in TEN[1:5] + UP_TO_SIX[10:20]:
            n = land[0]
            everything = tuple(range(n))
            for k in (least_width(land) + 1, MOST):
                told = {lot: plans_with(land, k, lot) for lot in all_lots(n)} if n < 7 else {}
                if told:
                    self.assertEqual(sum(told.values()), (2 * n - 1) * plans_below(land, k))
                self.assertEqual(plans_with(land, k, everything), plans_below(land, k))
                dice = Dice(n)
                for _ in range(6):
                    lot = tuple(sorted(dice.shuffled(everything)[:1 + dice.below(n - 1)]))
                    rest = tuple(s for s in everything if s not in lot)
                    one, other = plans_with(land, k, lot), plans_with(land, k, rest)
                    self.assertEqual((2 * len(lot) - 1) * one, (2 * len(rest) - 1) * other)
                    self.assertEqual(least_with(land, lot), least_with(land, rest))
                    for bound in (least_with(land, lot), least_with(land, lot) + 1):
                        self.assertEqual(plans_with(land, bound, lot) > 0, bound > least_with(land, lot))

    def test_single_shires_and_all(self):
        for land in UP_TO_SIX + TEN:
            least = least_width(land)
            for lot in [(s,) for s in range(land[0])] + [tuple(range(land[0]))]:
                self.assertEqual(least_with(land, lot), least)
                self.assertEqual(width(land, plan_with(land, lot)), least)
                self.assertEqual(plans_with(land, least + 1, lot), plans_below(land, least + 1))
            told = sure_lots(land, least + 1)
            self.assertTrue({(s,) for s in range(land[0])} <= set(told))
            self.assertIn(tuple(range(land[0])), told)

    def test_the_rest_is_wider(self):
        self.assertEqual([least_width(EIGHT_SIDES), outer_border(EIGHT_SIDES, (1, 4)), least_with(EIGHT_SIDES, (1, 4))], [6, 6, 7])
        self.assertEqual([least_with(EIGHT_SIDES, (0, 2, 3, 5)), width(EIGHT_SIDES, plan_with(EIGHT_SIDES, (1, 4)))], [7, 7])
        self.assertEqual([plans_with(EIGHT_SIDES, k, (1, 4)) > 0 for k in (7, 8)], [False, True])

    def test_two_shires(self):
        self.assertEqual([plans_below(ONE, 7), plans_below(ONE, 8), plan_at(ONE, 8, 0), plan_number(ONE, 8, (1, 0))], [0, 1, (0, 1), 0])
        self.assertEqual([plan_number(ONE, 7, (0, 1)), standing_lots(ONE, 8), sure_lots(TRIPLE, MOST)],
                         [None, ((0,), (0, 1), (1,)), ((0,), (0, 1), (1,))])
        self.assertEqual([plans_by_neighbours(ONE, 8), plans_in_pieces(ONE, 8), plans_in_pieces(ONE, 7)], [1, 1, 0])

    def test_by_hand(self):
        # In a row only one of three plans of three shires joins lots without a border between.
        row = board(3, 1)
        self.assertEqual([plans_below(row, 3), plans_by_neighbours(row, 3), plans_in_pieces(row, 3)], [3, 2, 0])
        self.assertEqual([plans_below(ROW, 8), plans_by_neighbours(ROW, 8), plans_in_pieces(ROW, 99)], [10, 5, 0])


class Sizes(unittest.TestCase):

    def test_ten_shires(self):
        dice = Dice(123)
        for land in TEN:
            least = least_width(land)
            for k in (least + 1, least + least // 3 + 1, MOST):
                many = plans_below(land, k)
                numbers = sorted({0, many - 1, many // 2, dice.below(many), dice.below(many)})
                plans = [unchanged(self, plan_at, land, k, i) for i in numbers]
                self.assertEqual(sorted(plans, key=key), plans)
                for i, plan in zip(numbers, plans):
                    self.assertEqual(exact(plan), exact(in_form(plan)))
                    self.assertLess(width(land, plan), k)
                    self.assertEqual(plan_number(land, k, swapped(plan)), i)
                    self.assertIsNone(plan_number(land, width(land, plan), plan))

    def test_numbers_of_plans(self):
        dice = Dice(124)
        for land in TEN[:6]:
            for plan in (best_plan(land), random_plan(dice, range(land[0]))):
                k = width(land, plan) + 1
                i = plan_number(land, k, plan)
                self.assertEqual(plan_at(land, k, i), in_form(plan))
                for lot in lots_of(plan)[::5]:
                    self.assertGreater(plans_with(land, k, lot), 0)
                    self.assertIn(lot, standing_lots(land, k))
                    self.assertLessEqual(least_with(land, lot), k - 1)
                other = rooted(plan, 3 % land[0])
                self.assertIsNotNone(plan_number(land, k, other))

    def test_lots_of_ten_shires(self):
        for land in TEN[:5]:
            for lot in ((0, 1, 2, 3, 4), (0, 9), (1, 2, 3, 4, 5, 6, 7, 8), (5,)):
                lot = tuple(s for s in lot if s < land[0])
                least = least_with(land, lot)
                plan = plan_with(land, lot)
                self.assertIn(lot, lots_of(plan))
                self.assertEqual(width(land, plan), least)
                self.assertGreaterEqual(least, max(outer_border(land, lot), least_width(land)))
                self.assertIs(is_below(land, least + 1), True)
            told = standing_lots(land, MOST)
            self.assertEqual(len(told), 2 ** land[0] - 1)
            self.assertEqual(len(sure_lots(land, MOST)), land[0] + 1)
