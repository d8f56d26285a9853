"""[9.3] and [9.7]: what judges tell of trees of borders and of verdicts on them, of any value."""

import unittest

from foxborders.bordertrees import (best_tree, judge_corner_tree, judge_tree, judge_tree_verdict, land_of_turns, least_load,
                                    shire_load, tree_load, tree_verdict)
from foxborders.land import corner_count
from foxborders.plans import rooted
from foxborders.tables import greatest_table, is_table, thin_table
from tests.lands import BY_HAND, FOUR, GROWN, LARGE, ONE, RING, ROW, STAR, TRIPLE, WOVEN, Dice, board, prism
from tests.plans_oracle import in_form, random_plan
from tests.tables_oracle import Ground
from tests.test_bordertrees import DOUBLE, SOME, TWENTY, UP_TO_SIX
from tests.trees_oracle import (by_corners, by_shires, least_load_of_all, tree_fault, tree_verdict_fault, turns_land)
from tests.values import changes, exact, odd_values, unchanged

MOST = 10 ** 10 - 1


class Trees(unittest.TestCase):

    def judged(self, land, k, value):
        fault = tree_fault(land, by_shires(land), k, value)
        self.assertEqual(exact(unchanged(self, judge_tree, land, k, value)), exact(fault), (k, value))
        other = tree_fault(land, by_corners(land), k, value)
        self.assertEqual(exact(unchanged(self, judge_corner_tree, land, k, value)), exact(other), (k, value))
        return fault and fault[0]

    def test_any_value(self):
        for value in odd_values():
            for land in (ONE, DOUBLE, FOUR, ROW):
                self.judged(land, 2, value)
                self.judged(land, 2, (value, 1))

    def test_form_and_border(self):
        for value in (True, False, -1, "0", None, [0, 1], ((0, 1), [2, 3]), (0, 1, 2), (0,), (), 6, (0, 6), ((0, True), 1), (0, -1),
                      ((0, 1), ((2, 3), (4, 6))), (0, (0, 9))):
            self.assertEqual(judge_tree(FOUR, MOST, value), ("form",), value)
            self.assertEqual(judge_corner_tree(FOUR, MOST, value), ("form",), value)
        for value, e in ((0, 1), (5, 0), ((0, 1), 2), (((0, 1), 3), 2), ((((0, 1), (2, 3)), (4, 4)), 4),
                         ((((0, 0), (2, 3)), (4, 5)), 0), ((((5, 4), (2, 3)), (1, (0, 1))), 1)):
            self.assertEqual(judge_tree(FOUR, 0, value), ("border", e), value)
            self.assertEqual(judge_corner_tree(FOUR, 0, value), ("border", e), value)
        self.assertEqual(judge_tree(ONE, 1, (0, 0)), ("border", 0))

    def test_load(self):
        self.assertEqual([judge_tree(ONE, 0, 0), judge_tree(ONE, 1, 0), judge_corner_tree(ONE, 0, 0)],
                         [("load", (0,), 0), None, ("load", (0,), 0)])
        self.assertEqual(judge_tree(ROW, 0, (2, (1, 0))), ("load", (0,), 1))
        self.assertEqual(judge_tree(ROW, 2, (2, (1, 0))), ("load", (1,), 2))
        self.assertEqual(judge_corner_tree(ROW, 1, (2, (1, 0))), ("load", (0,), 1))
        self.assertIsNone(judge_tree(ROW, 3, (2, (1, 0))))

    def test_at_random(self):
        dice = Dice(71)
        told = []
        for land in UP_TO_SIX + SOME[:40] + LARGE[:2]:
            for _ in range(3):
                tree = random_plan(dice, range(len(land[1])))
                if not dice.below(3):
                    tree = (tree, dice.below(len(land[1]) + 1))
                told.append(self.judged(land, dice.below(6), tree))
        self.assertEqual(set(told), {None, "form", "border", "load"})

    def test_one_part_changed(self):
        for land in (ONE, DOUBLE, ROW, RING, FOUR):
            for k in (0, least_load(land), least_load(land) + 1, MOST):
                for value in changes(best_tree(land)):
                    self.judged(land, k, value)


class Verdicts(unittest.TestCase):

    def judged(self, land, value, ground=None):
        fault = tree_verdict_fault(land, value, ground)
        self.assertEqual(exact(unchanged(self, judge_tree_verdict, land, value)), exact(fault), value)
        return fault

    def test_verdicts(self):
        words = []
        for land in SOME:
            if len(land[1]) > 1:
                told = unchanged(self, tree_verdict, land)
                load, tree, paper = told
                self.assertEqual(load, least_load(land))
                self.assertEqual(tree_load(land, tree), load)
                self.assertEqual(exact(tree), exact(in_form(tree)))
                alone = [e for e in range(len(land[1])) if shire_load(land, (e,)) == load]
                expected = ("border", alone[0]) if alone else ("table", greatest_table(land_of_turns(land), 2 * load))
                self.assertEqual(exact(paper), exact(expected))
                self.assertIsNone(judge_tree_verdict(land, told))
                words.append(paper[0])
        self.assertGreater(min(words.count("border"), words.count("table")), 8)

    def test_any_right_verdict_is_let(self):
        for land in TWENTY[:4] + (FOUR, prism(3)):
            load, tree, paper = tree_verdict(land)
            for other in (rooted(tree, 1), (rooted(tree, 0)[1], rooted(tree, 0)[0])):
                self.assertIsNone(judge_tree_verdict(land, (load, other, paper)))
            if paper[0] == "table":
                thin = thin_table(land_of_turns(land), 2 * load, paper[1])
                self.assertIsNone(judge_tree_verdict(land, (load, tree, ("table", thin))))

    def test_any_value(self):
        for value in odd_values():
            self.assertEqual(judge_tree_verdict(FOUR, value), ("form",))
            good = tree_verdict(FOUR)
            self.judged(FOUR, (value,) + good[1:])
            self.judged(FOUR, (good[0], value, good[2]))
            self.judged(FOUR, good[:2] + (value,))
            self.judged(FOUR, good[:2] + (("border", value),))
            self.judged(FOUR, good[:2] + (("table", value),))
            self.judged(FOUR, good[:2] + ((value, 0),))

    def test_form(self):
        good = tree_verdict(ROW)
        for value in (list(good), good[:2], good + (1,), (True,) + good[1:], (0,) + good[1:], (-2,) + good[1:], ("2",) + good[1:],
                      (None,) + good[1:], ((2,),) + good[1:], {0: 2, 1: 0, 2: 0}, (), "abc"):
            self.assertEqual(judge_tree_verdict(ROW, value), ("form",), value)

    def test_sequence_of_faults(self):
        tree = ((0, 1), 2)
        self.assertEqual(judge_tree_verdict(ROW, (1, None, None)), ("tree", ("form",)))
        self.assertEqual(judge_tree_verdict(ROW, (1, (0, 1), None)), ("tree", ("border", 2)))
        self.assertEqual(judge_tree_verdict(ROW, (1, tree, None)), ("tree", ("load", (1,), 2)))
        for paper in (None, ("border",), ["border", 1], ("border", 3), ("border", -1), ("border", True), ("border", None), ("Border", 1),
                      ("border", 1, 1), ("table",), ("shire", 1), (0, 1), ((), ())):
            self.assertEqual(judge_tree_verdict(ROW, (2, tree, paper)), ("paper", ("form",)), paper)
        self.assertEqual(judge_tree_verdict(ROW, (2, tree, ("border", 0))), ("paper", ("border", 1)))
        self.assertEqual(judge_tree_verdict(ROW, (3, tree, ("border", 1))), ("paper", ("border", 2)))
        self.assertEqual(judge_tree_verdict(ROW, (10 ** 59, tree, ("border", 1))), ("paper", ("border", 2)))
        self.assertEqual(judge_tree_verdict(ROW, (2, tree, ("table", ()))), ("paper", ("form",)))
        self.assertIsNone(judge_tree_verdict(ROW, (2, tree, ("border", 1))))
        # A border whose load is more than w is let, though then no tree can be.
        self.assertEqual(judge_tree_verdict(ROW, (1, tree, ("border", 1))), ("tree", ("load", (1,), 2)))

    def test_faults_of_tables(self):
        load, tree, (word, table) = tree_verdict(FOUR)
        self.assertEqual([load, word], [3, "table"])
        at, along = table
        turned = land_of_turns(FOUR)
        self.assertEqual([len(at), len(along)], [corner_count(turned), len(turned[1])])
        found = {self.judged(FOUR, (load, tree, ("table", value))) for value in (
            (at, along[:-1]), (at, along[::-1]), (at[::-1], along), (at, ((0, 1, 2, 3, 4, 5),) * len(along)), (at[:1] * len(at), along),
            ([], along), (at, along[:1] + ((),) + along[2:]))}
        self.assertIn(("paper", ("form",)), found)
        self.assertGreater(len(found), 2)
        # Right for 2 w, it is none for more; a tree as light as the greater number is let.
        self.assertEqual(self.judged(FOUR, (4, tree, ("table", table)))[0], "paper")

    def test_one_part_changed(self):
        for land in (DOUBLE, ROW, STAR):
            for value in changes(tree_verdict(land)):
                self.judged(land, value)
        ground = Ground(turns_land(FOUR), 6)
        good = tree_verdict(FOUR)
        for value in changes(good[2]):
            self.judged(FOUR, good[:2] + (value,), ground)


class JustOne(unittest.TestCase):

    def test_tree_or_border_or_table(self):
        tables = 0
        for land in UP_TO_SIX:
            if len(land[1]) > 1:
                least = least_load_of_all(land, by_shires(land))
                turned = turns_land(land)
                for k in range(1, least + 3):
                    alone = max(shire_load(land, (e,)) for e in range(len(land[1]))) >= k
                    table = greatest_table(turned, 2 * k)
                    if table is not None:
                        self.assertIs(is_table(turned, 2 * k, table), True)
                    self.assertEqual(least < k, not (alone or table is not None))
                    tables += table is not None and not alone
        self.assertGreater(tables, 0)

    def test_more_lands(self):
        for land in TWENTY + (board(3, 3), prism(5), TRIPLE, WOVEN[4], GROWN[5], BY_HAND[6]):
            if 1 < len(land[1]) <= 20:
                least = least_load(land)
                for k in (1, least, least + 1, 999):
                    alone = max(shire_load(land, (e,)) for e in range(len(land[1]))) >= k
                    self.assertEqual(least < k, not (alone or greatest_table(land_of_turns(land), 2 * k) is not None))
