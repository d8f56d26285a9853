"""[8.4] to [8.6] and what [4.6] tells of lands put together: pieces, parts, lands parted and put together, rings."""

import unittest

from foxborders.changes import (has_ring, joined, part_of, parted, parting_shires, pieces_without, put_lands, shrunk)
from foxborders.land import is_land, outer_border, outer_borders
from foxborders.plans import judge_plan, put_plans, width
from foxborders.verdicts import best_plan, least_width
from tests import changes_oracle as oracle
from tests.lands import (BY_HAND, FOUR, GREAT, GROWN, HUNG, LANDS, LARGE, ONE, RING, ROW, STAR, TRIPLE, WOVEN, Dice,
                         grown_land)
from tests.plans_oracle import random_plan
from tests.rounds_oracle import classes
from tests.values import exact, unchanged

# As large as put_lands takes them.
TWELVE = (grown_land(71, 12, 30, 999999999), grown_land(72, 12, 11), grown_land(73, 2, 30), WOVEN[6])


class Parts(unittest.TestCase):

    def test_pieces(self):
        for land in LANDS + WOVEN + GREAT:
            for s in range(land[0]):
                self.assertEqual(exact(unchanged(self, pieces_without, land, s)), exact(oracle.pieces_of(land, s)))
            parting = tuple(s for s in range(land[0]) if len(oracle.pieces_of(land, s)) > 1)
            self.assertEqual(unchanged(self, parting_shires, land), parting)
        self.assertEqual([parting_shires(land) for land in (ONE, TRIPLE, ROW, STAR, RING, HUNG)],
                         [(), (), (1, 2), (3,), (), (0,)])
        self.assertEqual(pieces_without(TRIPLE, 0), ((1,),))
        self.assertEqual(pieces_without(STAR, 3), ((0,), (1,), (2,)))

    def test_part_of(self):
        for land in LANDS + WOVEN:
            dice = Dice(land[0] + 3)
            for _ in range(12):
                lot = tuple(sorted(dice.shuffled(range(land[0]))[:2 + dice.below(land[0] - 1)]))
                if len(classes(lot, land[1])) == 1:
                    told = unchanged(self, part_of, land, lot)
                    self.assertEqual(exact(told), exact(oracle.part_land(land, lot)))
                    self.assertTrue(oracle.is_right(told))
            self.assertEqual(part_of(land, tuple(range(land[0]))), land)
        self.assertEqual(part_of(RING, (0, 1, 3)), (3, ((0, 1), (0, 2)), ((0, 1), (0,), (1,)), (1, 1)))

    def test_parted(self):
        for land in LANDS + WOVEN:
            for s in range(land[0]):
                lots = [tuple(sorted(piece + (s,))) for piece in oracle.pieces_of(land, s)]
                told = unchanged(self, parted, land, s)
                self.assertEqual(exact(told), exact(tuple((lot, oracle.part_land(land, lot)) for lot in lots)))
        self.assertEqual(parted(ONE, 0), (((0, 1), ONE),))

    def test_least_width(self):
        looked = 0
        for land in BY_HAND + GROWN + LARGE[:2] + WOVEN[:10]:
            for s in range(land[0]):
                told = parted(land, s)
                looked += len(told) > 1
                widths = [least_width(part) for _, part in told]
                self.assertEqual(least_width(land), max(widths + [outer_border(land, (s,))]))
        self.assertGreater(looked, 60)


class PutTogether(unittest.TestCase):

    def expected(self, one, s, other, t):
        n = one[0]
        names = [shire for shire in range(n, n + other[0] - 1)]
        names.insert(t, s)
        pairs = list(one[1]) + [tuple(sorted((names[a], names[b]))) for a, b in other[1]]
        turns = [list(turn) for turn in one[2]] + [[] for _ in range(other[0] - 1)]
        for shire, turn in enumerate(other[2]):
            turns[names[shire]].extend(e + len(one[1]) for e in turn)
        return (n + other[0] - 1, tuple(pairs), tuple(map(tuple, turns)), one[3] + other[3])

    def check(self, one, s, other, t):
        told = unchanged(self, put_lands, one, s, other, t)
        self.assertEqual(exact(told), exact(self.expected(one, s, other, t)))
        self.assertTrue(is_land(told))
        both = outer_border(one, (s,)) + outer_border(other, (t,))
        widths = (least_width(one), least_width(other), both)
        self.assertEqual(least_width(told), max(widths))
        plan = put_plans(best_plan(one), s, best_plan(other), t)
        self.assertIsNone(judge_plan(told, max(widths) + 1, plan))
        return told, both

    def test_small_lands(self):
        lands = BY_HAND + WOVEN[:2] + GROWN[3:6]
        for one in lands:
            for other in lands:
                for s in range(one[0]):
                    self.check(one, s, other, (s * 2 + one[0]) % other[0])

    def test_all_shires(self):
        for one, other in ((ROW, HUNG), (HUNG, FOUR), (ONE, ONE), (TRIPLE, STAR)):
            for s in range(one[0]):
                for t in range(other[0]):
                    self.check(one, s, other, t)

    def test_great_lands(self):
        for one in TWELVE:
            for other in TWELVE:
                self.check(one, one[0] - 1, other, other[0] // 2)

    def test_widths_of_plans(self):
        dice = Dice(50)
        for one in (ONE, ROW, FOUR, WOVEN[1]):
            for other in (TRIPLE, HUNG, STAR, WOVEN[2]):
                for _ in range(4):
                    s, t = dice.below(one[0]), dice.below(other[0])
                    told = put_lands(one, s, other, t)
                    first, second = random_plan(dice, range(one[0])), random_plan(dice, range(other[0]))
                    both = outer_border(one, (s,)) + outer_border(other, (t,))
                    self.assertEqual(width(told, put_plans(first, s, second, t)),
                                     max(width(one, first), width(other, second), both))

    def test_parted_again(self):
        told = put_lands(FOUR, 2, RING, 1)
        self.assertEqual([part for _, part in parted(told, 2)], [FOUR, part_of(told, (2, 4, 5, 6))])
        self.assertEqual(parted(told, 2)[1][0], (2, 4, 5, 6))


class Rings(unittest.TestCase):

    def test_has_ring(self):
        for land in LANDS + WOVEN + GREAT:
            # Without a ring, and only so, each border is the only way between its shires.
            told = any(len(classes(range(land[0]), land[1][:e] + land[1][e + 1:])) == 1 for e in range(len(land[1])))
            self.assertIs(unchanged(self, has_ring, land), told)
        self.assertEqual([has_ring(land) for land in (ONE, TRIPLE, ROW, STAR, RING, HUNG)],
                         [False, True, False, False, True, True])

    def test_least_width_without_a_ring(self):
        found = 0
        for seed in range(30):
            land = grown_land(seed + 500, 2 + seed % 11, 1 + seed % 11, 9)
            self.assertIs(has_ring(land), False)
            self.assertEqual(least_width(land), max(outer_borders(land)))
            found += land[0] > 4
        self.assertGreater(found, 15)

    def test_changed_lands(self):
        for land in WOVEN[:8]:
            while shrunk(land, 0) is not None:
                land = shrunk(land, 0)
            while has_ring(land) and land[0] > 2:
                land = joined(land, 0)
            self.assertTrue(is_land(land))
