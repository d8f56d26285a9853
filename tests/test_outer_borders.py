"""[1.3] outer borders of lots and of single shires."""

import itertools
import unittest

from foxborders.land import (between, cut_borders, longest_shires, outer_border, outer_borders, whole_length)
from tests.lands import FOUR, HUNG, LANDS, LARGE, ONE, RING, ROW, STAR, TRIPLE, Dice, some_lots
from tests.values import exact, unchanged


def rest(land, lot):
    return tuple(s for s in range(land[0]) if s not in lot)


class Lots(unittest.TestCase):

    def test_cut_borders(self):
        self.assertEqual([cut_borders(FOUR, lot) for lot in ((3, 0), (2,), (1, 2, 3), (2, 0, 1))],
                         [(0, 1, 4, 5), (1, 3, 5), (0, 1, 2), (2, 4, 5)])
        self.assertEqual([cut_borders(TRIPLE, (0,)), cut_borders(HUNG, (2,)), cut_borders(HUNG, (1,))],
                         [(0, 1, 2), (2,), (0, 1)])
        self.assertEqual([cut_borders(ROW, (0, 2)), cut_borders(ROW, (1, 2)), cut_borders(RING, (2, 0))],
                         [(0, 1, 2), (0, 2), (0, 1, 2, 3)])

    def test_lots_of_none_and_of_all(self):
        for land in LANDS:
            for lot in ((), tuple(range(land[0])), tuple(reversed(range(land[0])))):
                self.assertEqual([cut_borders(land, lot), outer_border(land, lot)], [(), 0])

    def test_cut_borders_of_all_lots(self):
        for land in LANDS[:20]:
            for size in range(land[0] + 1):
                for lot in itertools.combinations(range(land[0]), size):
                    cut = tuple(e for e, pair in enumerate(land[1]) if len(set(pair) & set(lot)) == 1)
                    self.assertEqual(cut_borders(land, lot), cut)
                    self.assertEqual(exact(outer_border(land, lot)), exact(sum(land[3][e] for e in cut)))

    def test_any_sequence(self):
        dice = Dice(2)
        for land in LANDS:
            for lot in some_lots(land, dice, 4):
                self.assertEqual(cut_borders(land, lot), cut_borders(land, tuple(sorted(lot))))

    def test_outer_border(self):
        self.assertEqual([outer_border(FOUR, (0, 3)), outer_border(FOUR, (2, 3)), outer_border(TRIPLE, (1,))],
                         [5, 4, 1000000005])

    def test_single_shires(self):
        self.assertEqual([outer_borders(ONE), outer_borders(ROW), outer_borders(STAR), outer_borders(HUNG)],
                         [(7, 7), (2, 5, 7, 4), (1, 4, 2, 7), (12, 7, 5)])
        self.assertEqual([longest_shires(ONE), longest_shires(ROW), longest_shires(RING), longest_shires(FOUR)],
                         [(0, 1), (2,), (0, 1, 2, 3), (2, 3)])
        for land in LANDS:
            singles = tuple(outer_border(land, (s,)) for s in range(land[0]))
            self.assertEqual(outer_borders(land), singles)
            longest = [s for s in range(land[0]) if not any(other > singles[s] for other in singles)]
            self.assertEqual(longest_shires(land), tuple(longest))

    def test_between(self):
        self.assertEqual([between(TRIPLE, 0, 1), between(TRIPLE, 1, 0), between(HUNG, 0, 1), between(HUNG, 2, 1)],
                         [1000000005, 1000000005, 7, 0])
        for land in LANDS:
            for s, t in itertools.permutations(range(land[0]), 2):
                self.assertEqual(between(land, s, t), sum(m for pair, m in zip(land[1], land[3]) if {s, t} == set(pair)))

    def test_whole_length(self):
        self.assertEqual([whole_length(ONE), whole_length(FOUR), whole_length(TRIPLE)], [7, 7, 1000000005])
        self.assertGreater(whole_length(LARGE[0]), 10 ** 9)

    def test_nothing_modified(self):
        unchanged(self, cut_borders, FOUR, (2, 0))
        unchanged(self, outer_border, FOUR, (2, 0))
        unchanged(self, between, FOUR, 2, 0)
        for call in (outer_borders, longest_shires, whole_length):
            unchanged(self, call, FOUR)


class ForAll(unittest.TestCase):

    def test_lot_and_rest(self):
        dice = Dice(3)
        for land in LANDS:
            for lot in some_lots(land, dice, 8):
                self.assertEqual(outer_border(land, lot), outer_border(land, rest(land, lot)))
                self.assertEqual(cut_borders(land, lot), cut_borders(land, rest(land, lot)))

    def test_two_lots(self):
        dice = Dice(4)
        for land in LANDS:
            for one in some_lots(land, dice, 5):
                for other in some_lots(land, dice, 5):
                    either, both = tuple(set(one) | set(other)), tuple(set(one) & set(other))
                    self.assertGreaterEqual(outer_border(land, one) + outer_border(land, other),
                                            outer_border(land, either) + outer_border(land, both))

    def test_lots_apart(self):
        dice = Dice(5)
        for land in LANDS:
            for lot in some_lots(land, dice, 8):
                one, other = lot[:len(lot) // 2], lot[len(lot) // 2:]
                leading = sum(between(land, s, t) for s in one for t in other)
                self.assertEqual(outer_border(land, lot),
                                 outer_border(land, one) + outer_border(land, other) - 2 * leading)

    def test_twice_the_whole(self):
        for land in LANDS:
            self.assertEqual(sum(outer_borders(land)), 2 * whole_length(land))
