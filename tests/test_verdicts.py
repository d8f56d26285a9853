"""[7.1] to [7.3] and [7.6]: papers, the least width, what is told for a number, and verdicts."""

import unittest

from foxborders.land import outer_borders, times_land
from foxborders.plans import judge_plan, rooted, width
from foxborders.tables import goes_at, greatest_table, thin_table
from foxborders.verdicts import (best_plan, is_below, judge_paper, judge_told, judge_verdict, least_width, paper_for,
                                 told_for, verdict)
from tests.lands import (BY_HAND, FOUR, GREAT, GROWN, LANDS, ONE, RING, ROW, TRIPLE, WOVEN, Dice, board, grown_land,
                         prism, woven_land)
from tests.plans_oracle import all_plans, in_form, least_width_of_all, plan_width
from tests.tables_oracle import Ground, all_empty
from tests.values import exact, unchanged

MOST = 10 ** 12 - 1
UP_TO_SIX = tuple(land for land in BY_HAND + GROWN + WOVEN if land[0] <= 6) + (board(2, 3), board(3, 2, (2, 1, 1)), prism(3)) + (
    tuple(woven_land(seed, 5 + seed % 2, 1 + seed % 3) for seed in range(200, 230)))
# As large as callers may pass them.
FORTY = (board(4, 6), prism(12), board(4, 6, (3, 1, 4, 1, 5, 9, 2, 6)), prism(12, (999999999, 999999998, 500000000)),
         grown_land(9, 24, 40, 999999999), woven_land(1, 15, 5), woven_land(3, 16, 3), grown_land(10, 2, 40))


class LeastWidth(unittest.TestCase):

    def test_by_all_plans(self):
        for land in UP_TO_SIX:
            told = unchanged(self, least_width, land)
            self.assertEqual(exact(told), exact(least_width_of_all(land)))

    def test_by_hand(self):
        self.assertEqual([least_width(land) for land in (ONE, TRIPLE, ROW, RING, FOUR)], [7, 1000000005, 7, 2, 4])
        self.assertEqual([least_width(prism(n)) for n in (3, 4, 5, 6, 12)], [4] * 5)
        self.assertEqual([least_width(board(2, n)) for n in range(1, 7)], [1, 2, 3, 3, 3, 3])
        self.assertEqual([least_width(board(3, n)) for n in range(3, 8)], [4] * 5)
        self.assertEqual([least_width(board(4, n)) for n in (4, 5, 6)], [4, 5, 5])

    def test_by_where_tables_go(self):
        for land in LANDS + WOVEN + GREAT:
            told = least_width(land)
            self.assertEqual(told, max(max(outer_borders(land)), goes_at(land) - 1))
            self.assertEqual(told, min(k for k in range(told - 1, told + 2) if is_below(land, k + 1)))

    def test_lengths_times_as_great(self):
        for land in WOVEN[:20]:
            for m in (2, 1000):
                self.assertEqual(least_width(times_land(land, m)), m * least_width(land))


class JustOne(unittest.TestCase):

    def test_by_all_plans(self):
        tables = 0
        for land in UP_TO_SIX:
            widths = sorted(plan_width(land, plan) for plan in all_plans(land[0]))
            least = widths[0]
            for k in {1, 2, least - 2, least - 1, least, least + 1, least + 2, widths[-1], widths[-1] + 1, MOST} - {0, -1}:
                plan = least < k
                self.assertIs(unchanged(self, is_below, land, k), plan)
                ground = Ground(land, k)
                table = not all_empty(ground.left_of(ground.first(), Dice(k)))
                shire = max(outer_borders(land)) >= k
                # Just one of two.
                self.assertEqual(plan, not (table or shire))
                tables += table and not shire
        self.assertGreater(tables, 12)

    def test_each_number_of_small_lands(self):
        numbers = 0
        for land in UP_TO_SIX:
            least = least_width_of_all(land)
            for k in range(1, least + 4) if least < 30 else ():
                numbers += 1
                plan = told_for(land, k) if least < k else None
                paper = paper_for(land, k)
                self.assertEqual(plan is None, paper is not None)
                self.assertIsNone(judge_told(land, k, plan or paper))
                self.assertTrue(plan is not None or judge_paper(land, k, paper) is None)
        self.assertGreater(numbers, 500)

    def test_all_numbers_about_the_least_width(self):
        for land in WOVEN + GREAT:
            told = least_width(land)
            for k in range(max(told - 3, 1), told + 4):
                self.assertIs(is_below(land, k), k > told)


class Told(unittest.TestCase):

    def check(self, land, k, least):
        told = unchanged(self, told_for, land, k)
        self.assertIsNone(judge_told(land, k, told))
        paper = unchanged(self, paper_for, land, k)
        if k > least:
            self.assertEqual(told[0], "plan")
            self.assertEqual(told[1], in_form(told[1]))
            self.assertIsNone(judge_plan(land, k, told[1]))
            self.assertIsNone(paper)
            return "plan"
        self.assertEqual(paper, told)
        self.assertIsNone(judge_paper(land, k, told))
        long = [s for s, length in enumerate(outer_borders(land)) if length >= k]
        expected = ("shire", long[0]) if long else ("table", greatest_table(land, k))
        self.assertEqual(exact(told), exact(expected))
        return told[0]

    def test_all_kinds(self):
        found = []
        for land in LANDS + WOVEN:
            least = least_width(land)
            for k in {1, max(outer_borders(land)), max(outer_borders(land)) + 1, least, least + 1, least + 7, MOST}:
                found.append(self.check(land, k, least))
        self.assertGreater(min(found.count(word) for word in ("plan", "shire", "table")), 15)

    def test_great_lands(self):
        for land in FORTY:
            least = least_width(land)
            for k in {1, max(outer_borders(land)) + 1, least, least + 1, MOST}:
                self.check(land, k, least)


class Verdicts(unittest.TestCase):

    def test_verdicts(self):
        words = []
        for land in LANDS[:60] + WOVEN + FORTY:
            told = unchanged(self, verdict, land)
            least = least_width(land)
            self.assertEqual(told[0], least)
            self.assertEqual(width(land, told[1]), least)
            self.assertEqual(told[1], in_form(told[1]))
            self.assertEqual(exact(told[2]), exact(told_for(land, least)))
            self.assertIsNone(judge_verdict(land, told))
            words.append(told[2][0])
        self.assertGreater(words.count("shire"), 20)
        self.assertGreater(words.count("table"), 10)

    def test_best_plans(self):
        for land in LANDS + WOVEN + FORTY:
            told = unchanged(self, best_plan, land)
            self.assertEqual(width(land, told), least_width(land))
            self.assertEqual(exact(told), exact(in_form(told)))
        self.assertEqual([best_plan(land) for land in (ONE, TRIPLE)], [(0, 1), (0, 1)])

    def test_any_verdict_is_let(self):
        for land in WOVEN[:30]:
            least, plan, paper = verdict(land)
            self.assertIsNone(judge_verdict(land, (least, rooted(plan, 1), paper)))
            if paper[0] == "table":
                thin = thin_table(land, least, paper[1])
                self.assertIsNone(judge_verdict(land, (least, plan, ("table", thin))))
            for s, length in enumerate(outer_borders(land)):
                fault = None if length >= least else ("paper", ("short", length))
                self.assertEqual(judge_verdict(land, (least, plan, ("shire", s))), fault)
