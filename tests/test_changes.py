"""[8.1] to [8.3] and [8.7]: shires joined, borders shrunk, the contrary land, bundled lands."""

import unittest

from foxborders.changes import bundled, contrary, joined, joined_borders, joined_shires, shrunk
from foxborders.land import corners, ends, is_land, outer_border, same_land, with_length
from foxborders.verdicts import least_width
from tests import changes_oracle as oracle
from tests.lands import BY_HAND, GREAT, GROWN, HUNG, LANDS, LARGE, ONE, RING, ROW, STAR, TRIPLE, WOVEN, board, prism
from tests.plans_oracle import all_plans, plan_width
from tests.values import exact, unchanged

SOME = BY_HAND + GROWN[:30] + WOVEN[:20]


class Joined(unittest.TestCase):

    def test_lands(self):
        for land in LANDS + WOVEN + GREAT:
            for e in range(len(land[1])):
                told = unchanged(self, joined, land, e)
                if land[0] == 2:
                    self.assertIsNone(told)
                else:
                    self.assertEqual(exact(told), exact(oracle.joined_land(land, e)))
                    self.assertTrue(oracle.is_right(told))

    def test_shires_and_borders(self):
        for land in LANDS + WOVEN:
            for e, (a, b) in enumerate(land[1]):
                names = unchanged(self, joined_shires, land, e)
                self.assertEqual([names[a], names[b]], [a, a])
                self.assertEqual([name for s, name in enumerate(names) if s != b], list(range(land[0] - 1)))
                stay = unchanged(self, joined_borders, land, e)
                self.assertEqual(stay, tuple(f for f, pair in enumerate(land[1]) if pair != (a, b)))
                if land[0] > 2:
                    behind = joined(land, e)
                    for number, f in enumerate(stay):
                        self.assertEqual(sorted(names[s] for s in land[1][f]), list(behind[1][number]))

    def test_two_shires(self):
        self.assertEqual([joined(ONE, 0), joined(TRIPLE, 1)], [None, None])
        self.assertEqual([joined_shires(ONE, 0), joined_shires(TRIPLE, 2)], [(0, 0), (0, 0)])
        self.assertEqual([joined_borders(ONE, 0), joined_borders(TRIPLE, 2)], [(), ()])

    def test_where_turns_begin(self):
        # Of a's turn what stands behind e, round about, then of b's; others as they did.
        self.assertEqual(joined(STAR, 1), (3, ((0, 1), (1, 2)), ((0,), (1, 0), (1,)), (1, 2)))
        self.assertEqual(joined(HUNG, 0), (2, ((0, 1),), ((0,), (0,)), (5,)))
        self.assertEqual(joined(HUNG, 2), (2, ((0, 1), (0, 1)), ((1, 0), (1, 0)), (3, 4)))
        # The one shire has the lesser number, those above the greater one have one less.
        self.assertEqual(joined(RING, 3), (3, ((0, 1), (1, 2), (0, 2)), ((0, 2), (0, 1), (1, 2)), (1, 1, 1)))

    def test_outer_borders(self):
        for land in SOME:
            if land[0] > 2:
                for e in range(len(land[1])):
                    names, behind = joined_shires(land, e), joined(land, e)
                    for lot in oracle.all_lots(land[0] - 1)[:60]:
                        ahead = tuple(s for s in range(land[0]) if names[s] in lot)
                        self.assertEqual(outer_border(behind, lot), outer_border(land, ahead))


class Shrunk(unittest.TestCase):

    def test_lands(self):
        none = 0
        for land in LANDS + WOVEN + GREAT:
            for e in range(len(land[1])):
                told = unchanged(self, shrunk, land, e)
                self.assertEqual(exact(told), exact(oracle.shrunk_land(land, e)))
                c, d = ends(land, e)
                self.assertEqual(told is None, c == d)
                none += told is None
                if told is not None:
                    self.assertTrue(oracle.is_right(told))
                    self.assertEqual(len(corners(told)), len(corners(land)) - 1)
        self.assertGreater(none, 50)

    def test_one_corner_at_both_ends(self):
        self.assertEqual([shrunk(ONE, 0), shrunk(ROW, 1), shrunk(STAR, 0), shrunk(HUNG, 2)], [None] * 4)
        self.assertEqual(shrunk(HUNG, 0), (3, ((0, 1), (0, 2)), ((1, 0), (0,), (1,)), (4, 5)))
        self.assertEqual(shrunk(TRIPLE, 1), (2, ((0, 1), (0, 1)), ((0, 1), (1, 0)), (5, 999999999)))

    def test_least_width(self):
        for land in SOME + LARGE:
            width = least_width(land)
            for e in range(min(len(land[1]), 12)):
                behind = shrunk(land, e)
                if behind is not None:
                    self.assertLessEqual(width - land[3][e], least_width(behind))
                    self.assertLessEqual(least_width(behind), width)
                longer = least_width(with_length(land, e, land[3][e] + 1))
                self.assertIn(longer - width, (0, 1))


class Contrary(unittest.TestCase):

    def test_lands(self):
        found = 0
        for land in LANDS + WOVEN + GREAT:
            told = unchanged(self, contrary, land)
            pairs = [ends(land, e) for e in range(len(land[1]))]
            if any(c == d for c, d in pairs):
                self.assertIsNone(told)
                continue
            found += 1
            self.assertTrue(is_land(told))
            turns = tuple(tuple(e for e, _ in sides) for sides in corners(land))
            self.assertEqual(exact(told), exact((len(turns), tuple(tuple(sorted(pair)) for pair in pairs), turns, land[3])))
        self.assertGreater(found, 40)

    def test_contrary_of_the_contrary(self):
        for land in LANDS + WOVEN + GREAT:
            told = contrary(land)
            if told is not None:
                again = contrary(told)
                self.assertEqual(len(corners(told)), land[0])
                # Each round tells the turn of a shire, begun somewhere; by them shires get their numbers back.
                rounds = [tuple(e for e, _ in sides) for sides in corners(told)]
                self.assertEqual(again[2], tuple(rounds))
                shires = []
                for gone in rounds:
                    alike = [s for s, turn in enumerate(land[2]) if sorted(turn) == sorted(gone)]
                    shires.append([s for s in alike if gone in [land[2][s][k:] + land[2][s][:k] for k in range(len(gone))]])
                self.assertTrue(all(shires))
                for e, (c, d) in enumerate(again[1]):
                    a, b = land[1][e]
                    self.assertTrue(a in shires[c] and b in shires[d] or b in shires[c] and a in shires[d])
                self.assertEqual(again[3], land[3])

    def test_one_corner_at_both_ends(self):
        self.assertEqual([contrary(land) for land in (ONE, ROW, STAR, HUNG)], [None] * 4)


class Bundled(unittest.TestCase):

    def expected(self, land):
        while True:
            twins = sorted(tuple(sorted((sides[0][0], sides[1][0]))) for sides in corners(land)
                           if len(sides) == 2 and sides[0][0] != sides[1][0])
            if not twins:
                return land
            e, f = twins[0]
            lengths = list(land[3])
            lengths[e] += lengths[f]
            land = oracle.shrunk_land(land[:3] + (tuple(lengths),), f)

    def test_lands(self):
        less = 0
        for land in LANDS + WOVEN + GREAT:
            told = unchanged(self, bundled, land)
            self.assertEqual(exact(told), exact(self.expected(land)))
            self.assertTrue(is_land(told))
            less += len(told[1]) < len(land[1])
            for lot in oracle.all_lots(min(land[0], 7))[:80]:
                self.assertEqual(outer_border(told, lot), outer_border(land, lot))
        self.assertGreater(less, 20)

    def test_by_hand(self):
        self.assertEqual(bundled(ONE), ONE)
        self.assertEqual(bundled(TRIPLE), (2, ((0, 1),), ((0,), (0,)), (1000000005,)))
        # Both corners between the two borders have more in them, or one has.
        self.assertEqual(bundled(HUNG), (3, ((0, 1), (0, 2)), ((0, 1), (0,), (1,)), (7, 5)))
        self.assertEqual(bundled(RING), RING)

    def test_same_widths(self):
        for land in SOME:
            if land[0] < 6:
                told = bundled(land)
                for plan in all_plans(land[0]):
                    self.assertEqual(plan_width(told, plan), plan_width(land, plan))


class Sizes(unittest.TestCase):

    def test_great_lands(self):
        for land in LARGE + GREAT + (board(4, 6, (999999999,)), prism(12, (999999999, 1))):
            for e in range(0, len(land[1]), 7):
                behind, less = joined(land, e), shrunk(land, e)
                self.assertTrue(behind is None or is_land(behind))
                self.assertTrue(less is None or is_land(less))
            self.assertTrue(same_land(bundled(bundled(land)), bundled(land)))
