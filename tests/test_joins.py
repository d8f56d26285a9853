"""[7.4] and [7.5]: good joins, rows of joins, and the plans that they make."""

import unittest

from foxborders.changes import joined
from foxborders.land import outer_border
from foxborders.plans import judge_plan, lots_of, width
from foxborders.verdicts import (best_joins, good_joins, is_below, join_widths, judge_joins, least_width, plan_of_joins)
from tests.changes_oracle import joined_land
from tests.lands import BY_HAND, GROWN, HUNG, ONE, RING, STAR, TRIPLE, WOVEN, Dice, board, grown_land, prism
from tests.plans_oracle import in_form, least_width_of_all
from tests.test_judge_verdicts import plan_by_joins
from tests.values import exact, unchanged

# As large as callers may pass them.
TWELVE = (board(3, 4), board(4, 3, (3, 1, 4, 1, 5)), prism(6), prism(6, (999999999, 1, 500000000)),
          grown_land(4, 12, 24, 999999999), grown_land(5, 12, 11, 9), grown_land(6, 2, 24, 9))
SMALL = tuple(land for land in BY_HAND + GROWN + WOVEN if land[0] <= 6)
SOME = tuple(land for land in SMALL + GROWN + WOVEN if len(land[1]) <= 24) + TWELVE


class Good(unittest.TestCase):

    def test_two_shires(self):
        for land in (ONE, TRIPLE, TWELVE[6]):
            self.assertEqual([good_joins(land), join_widths(land), best_joins(land)], [(), (), ()])

    def test_by_all_plans(self):
        for land in SMALL:
            if land[0] > 2:
                widths = tuple(least_width_of_all(joined_land(land, e)) for e in range(len(land[1])))
                least = least_width_of_all(land)
                self.assertEqual(exact(unchanged(self, join_widths, land)), exact(widths))
                self.assertEqual(exact(unchanged(self, good_joins, land)),
                                 exact(tuple(e for e, width in enumerate(widths) if width <= least)))

    def test_what_holds(self):
        bad = 0
        for land in SOME:
            if land[0] > 2:
                least, widths, good = least_width(land), join_widths(land), good_joins(land)
                self.assertEqual(len(widths), len(land[1]))
                self.assertNotEqual(good, ())
                told = []
                for e, (a, b) in enumerate(land[1]):
                    told.append(max(widths[e], outer_border(land, (a,)), outer_border(land, (b,))))
                    self.assertEqual(e in good, widths[e] <= least)
                    if e in good:
                        self.assertEqual(told[e], least)
                self.assertEqual(min(told), least)
                bad += len(good) < len(land[1])
        self.assertGreater(bad, 20)


class Rows(unittest.TestCase):

    def test_plans_of_rows(self):
        dice = Dice(14)
        for land in SOME:
            for _ in range(3):
                left, row = land, []
                while left[0] > 2:
                    row.append(dice.below(len(left[1])))
                    left = joined(left, row[-1])
                plan = unchanged(self, plan_of_joins, land, tuple(row))
                self.assertEqual(exact(plan), exact(plan_by_joins(land, row)[0]))
                self.assertEqual(plan, in_form(plan))
                # It joins by neighbours: a border leads from each half of a lot to the other.
                for lot in lots_of(plan):
                    if len(lot) > 1:
                        self.assertTrue(any(a in lot and b in lot for a, b in land[1]))
                self.assertIsNone(judge_joins(land, width(land, plan) + 1, tuple(row)))

    def test_by_hand(self):
        self.assertEqual([plan_of_joins(ONE, ()), plan_of_joins(TRIPLE, ())], [(0, 1), (0, 1)])
        self.assertEqual(plan_of_joins(STAR, (2, 1)), (0, (1, (2, 3))))
        self.assertEqual(plan_of_joins(RING, (3, 1)), ((0, 3), (1, 2)))
        self.assertEqual(plan_of_joins(HUNG, (2,)), ((0, 2), 1))

    def test_best_joins(self):
        for land in SOME:
            row = unchanged(self, best_joins, land)
            self.assertEqual(len(row), land[0] - 2)
            self.assertEqual(width(land, plan_of_joins(land, row)), least_width(land))
            left = land
            for e in row:
                self.assertEqual(e, good_joins(left)[0])
                self.assertLessEqual(least_width(joined(left, e)), least_width(left))
                left = joined(left, e)

    def test_best_joins_by_all_plans(self):
        for land in SMALL:
            left, row = land, []
            while left[0] > 2:
                least = least_width_of_all(left)
                row.append(next(e for e in range(len(left[1])) if least_width_of_all(joined_land(left, e)) <= least))
                left = joined_land(left, row[-1])
            self.assertEqual(exact(best_joins(land)), exact(tuple(row)))

    def test_first_join_below(self):
        # The first border whose join stays below the first land's least width and 1 does as well.
        for land in SOME:
            k = least_width(land) + 1
            left, row = land, []
            while left[0] > 2:
                row.append(next(e for e in range(len(left[1])) if is_below(joined(left, e), k)))
                left = joined(left, row[-1])
            self.assertIsNone(judge_plan(land, k, plan_of_joins(land, tuple(row))))

    def test_against_the_land_as_it_stands(self):
        # The least width falls with a join, and a later one is looked for against the lesser one.
        fell = 0
        for land in SOME:
            least = least_width(land)
            left = land
            for e in best_joins(land):
                left = joined(left, e)
                fell += least_width(left) < least
        self.assertGreater(fell, 20)
