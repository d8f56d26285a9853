"""[3.5] to [3.7]: noisy borders, pieces, and ways of the fox."""

import unittest

from foxborders.rounds import (all_noisy, all_pieces, is_noisy, judge_way, noisy, piece_of, pieces, round_of, way_of)
from tests.lands import BY_HAND, FOUR, GROWN, HUNG, LANDS, LARGE, ONE, RING, ROW, TRIPLE, WOVEN, Dice, all_sides
from tests.rounds_oracle import classes, far_table, fewest_sides, noisy_borders, quiet_pairs_of, way_fault
from tests.values import changes, exact, odd_values, unchanged

MOST = 10 ** 12 - 1


def numbers_for(land, dice):
    """Numbers k at which something changes or nothing does."""
    many = len(land[1])
    told = [0, 1, MOST]
    for _ in range(3 if many > 1 else 0):
        e, f = dice.shuffled(range(many))[:2]
        told.extend([round_of(land, e, f), round_of(land, e, f) + 1])
    return told


class Noise(unittest.TestCase):

    def test_all_numbers(self):
        for land in LANDS:
            dice = Dice(len(land[1]))
            table = far_table(land)
            for k in numbers_for(land, dice):
                told = unchanged(self, all_noisy, land, k)
                self.assertEqual(exact(told), exact(tuple(tuple(noisy_borders(land, table, e, k))
                                                          for e in range(len(land[1])))))
                e, f = dice.below(len(land[1])), dice.below(len(land[1]))
                self.assertEqual(unchanged(self, noisy, land, e, k), told[e])
                self.assertIs(is_noisy(land, e, f, k), f in told[e])
                self.assertIs(is_noisy(land, f, e, k), f in told[e])

    def test_at_and_above_the_length_of_a_round(self):
        for land in (TRIPLE, RING, ROW, HUNG, FOUR):
            for e in range(len(land[1])):
                for f in range(len(land[1])):
                    if e != f:
                        length = round_of(land, e, f)
                        self.assertIs(is_noisy(land, e, f, length), False)
                        self.assertIs(is_noisy(land, e, f, length + 1), True)

    def test_never_for_itself(self):
        for land in BY_HAND:
            for e in range(len(land[1])):
                self.assertIs(is_noisy(land, e, e, MOST), False)
                self.assertEqual(noisy(land, e, MOST), tuple(f for f in range(len(land[1])) if f != e))
                self.assertEqual(noisy(land, e, 0), ())

    def test_grows_with_the_number(self):
        for land in BY_HAND + GROWN[:20]:
            for k in sorted(numbers_for(land, Dice(2))):
                for low, high in zip(all_noisy(land, k), all_noisy(land, k + 1)):
                    self.assertLessEqual(set(low), set(high))


class Pieces(unittest.TestCase):

    def test_all_numbers(self):
        for land in LANDS:
            dice = Dice(len(land[1]) + 1)
            table = far_table(land)
            for k in numbers_for(land, dice):
                told = unchanged(self, all_pieces, land, k)
                for e, pair in enumerate(land[1]):
                    others = [s for s in range(land[0]) if s not in pair]
                    quiet = quiet_pairs_of(land, noisy_borders(land, table, e, k))
                    self.assertEqual(exact(told[e]), exact(classes(others, quiet)))
                e = dice.below(len(land[1]))
                self.assertEqual(unchanged(self, pieces, land, e, k), told[e])

    def test_piece_of_each_shire(self):
        for land in BY_HAND + GROWN[:15]:
            for k in (0, 10, MOST):
                for e in range(len(land[1])):
                    told = pieces(land, e, k)
                    for s in range(land[0]):
                        piece = piece_of(land, e, k, s)
                        if s in land[1][e]:
                            self.assertIsNone(piece)
                        else:
                            self.assertIn(s, piece)
                            self.assertIn(piece, told)

    def test_two_shires(self):
        for land in (ONE, TRIPLE):
            for k in (0, 1, MOST):
                self.assertEqual(all_pieces(land, k), ((),) * len(land[1]))
                self.assertIsNone(piece_of(land, 0, k, 1))

    def test_all_noisy_and_none(self):
        self.assertEqual(pieces(FOUR, 1, MOST), ((1,), (3,)))
        self.assertEqual(pieces(FOUR, 1, 0), ((1, 3),))
        # Where the two shires of a border part the others, also without noise.
        self.assertEqual(pieces(ROW, 1, 0), ((0,), (3,)))

    def test_shrink_with_the_number(self):
        for land in BY_HAND + GROWN[:30]:
            for k in numbers_for(land, Dice(7)):
                for low, high in zip(all_pieces(land, k), all_pieces(land, k + 1)):
                    for piece in high:
                        self.assertTrue(any(set(piece) <= set(greater) for greater in low))


class Ways(unittest.TestCase):

    def cases(self, lands):
        for land in lands:
            table = far_table(land)
            dice = Dice(land[0])
            for k in numbers_for(land, dice)[:5]:
                for e, pair in list(enumerate(land[1]))[:6]:
                    yield land, table, k, e, [s for s in range(land[0]) if s not in pair]

    def test_fewest_sides(self):
        for land, table, k, e, others in self.cases(BY_HAND + GROWN[:10] + WOVEN[:4] + LARGE[:1]):
            for s in others[:5]:
                many = fewest_sides(land, table, e, k, s)
                for t in others:
                    way = unchanged(self, way_of, land, e, k, s, t)
                    if t in many:
                        self.assertIsNone(way_fault(land, table, e, k, s, t, way))
                        self.assertIsNone(judge_way(land, e, k, s, t, way))
                        self.assertEqual(len(way), many[t])
                        self.assertIn(t, piece_of(land, e, k, s))
                    else:
                        self.assertIsNone(way)
                        self.assertNotIn(t, piece_of(land, e, k, s))

    def test_no_sides(self):
        for k in (0, MOST):
            self.assertEqual(way_of(FOUR, 0, k, 2, 2), ())
            self.assertIsNone(judge_way(FOUR, 0, k, 2, 2, ()))
            self.assertEqual(judge_way(FOUR, 0, k, 2, 3, ()), ("end", 2))


class WaysJudged(unittest.TestCase):

    def judged(self, land, e, k, s, t, value):
        fault = way_fault(land, far_table(land), e, k, s, t, value)
        self.assertEqual(exact(unchanged(self, judge_way, land, e, k, s, t, value)), exact(fault), (e, k, s, t, value))
        return fault and fault[0]

    def test_values_of_other_kinds(self):
        for value in odd_values():
            self.assertEqual(judge_way(FOUR, 0, 1, 2, 3, value), ("form",) if value != () else ("end", 2))
        for side in ((6, 0), (-1, 0), (5, 2), (5, True), (True, 0), [5, 0], (5,), (5, 0, 0), "50", None, (5, "0")):
            self.assertEqual(judge_way(FOUR, 0, 1, 2, 3, (side,)), ("form",))
            self.assertEqual(judge_way(FOUR, 0, 1, 2, 3, ((5, 0), (5, 0), side)), ("form",))
        self.assertEqual(judge_way(FOUR, 0, 1, 2, 3, [(5, 0)]), ("form",))

    def test_first_of_three_of_the_least_side(self):
        # Side 0 does not begin there, is noisy, and lies; then side 1 too.
        self.assertEqual(judge_way(FOUR, 0, MOST, 2, 3, ((2, 1), (1, 1))), ("side", 0))
        self.assertEqual(judge_way(FOUR, 0, MOST, 2, 3, ((1, 1), (1, 1))), ("noisy", 0))
        self.assertEqual(judge_way(FOUR, 0, 1, 2, 3, ((1, 1), (5, 0))), ("lies", 0))
        self.assertEqual(judge_way(FOUR, 0, 1, 2, 3, ((5, 0), (5, 0))), ("side", 1))
        self.assertEqual(judge_way(FOUR, 0, 1, 2, 3, ((5, 0), (2, 1), (0, 0))), ("lies", 1))

    def test_longer_ways(self):
        self.assertIsNone(judge_way(FOUR, 0, 1, 2, 3, ((5, 0), (5, 1)) * 100 + ((5, 0),)))

    def test_sides_at_random(self):
        dice = Dice(19)
        told = []
        for land in [land for land in BY_HAND + GROWN if land[0] > 3][:25]:
            for _ in range(40):
                e = dice.below(len(land[1]))
                k = dice.pick(numbers_for(land, dice))
                others = [s for s in range(land[0]) if s not in land[1][e]]
                s, t = dice.pick(others), dice.pick(others)
                here, sides = s, []
                for _ in range(dice.below(5)):
                    good = [(f, w) for f, w in all_sides(land) if land[1][f][w] == here or dice.below(20) == 0]
                    f, w = dice.pick(good)
                    sides.append((f, w))
                    here = land[1][f][1 - w]
                told.append(self.judged(land, e, k, s, t, tuple(sides)))
        self.assertEqual(set(told), {None, "side", "noisy", "lies", "end"})

    def test_one_part_changed(self):
        for land, e, s, t in ((FOUR, 0, 2, 3), (RING, 0, 2, 3), (FOUR, 2, 1, 2)):
            for k in (1, MOST):
                for value in changes(((5, 0),)):
                    self.judged(land, e, k, s, t, value)
