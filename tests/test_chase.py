"""[6.1] to [6.3] and [6.6]: moves, ranks, best moves, and who wins."""

import unittest

from foxborders.chase import (behind, bell_move, bell_moves, fox_move, fox_moves, is_won, longest_rank, rank_of, ranks,
                              refuges, wins_from)
from foxborders.rounds import pieces
from foxborders.tables import goes_at, greatest_table, lap_of
from tests.chase_oracle import Chase, greater
from tests.lands import BY_HAND, FOUR, GREAT, GROWN, HUNG, LANDS, LARGE, ONE, ROW, STAR, TRIPLE, WOVEN, Dice
from tests.values import exact, unchanged

MOST = 10 ** 12 - 1
SOME = BY_HAND + GROWN[:20] + WOVEN[:24]


def numbers_for(land):
    goes = goes_at(land)
    return sorted({1, max(goes - 1, 1), goes, goes + 3, MOST})


class Moves(unittest.TestCase):

    def test_bell(self):
        for land in LANDS + WOVEN:
            chase = Chase(land, 1)
            for c in range(chase.corners):
                self.assertEqual(exact(unchanged(self, bell_moves, land, c)), exact(chase.bell_moves(c)))
        # A border with one corner at both ends is one move.
        self.assertEqual([bell_moves(land, 0) for land in (ONE, ROW, STAR)], [(0,), (0, 1, 2), (0, 1, 2)])

    def test_fox(self):
        for land in SOME:
            for k in numbers_for(land):
                chase = Chase(land, k)
                for c, s in chase.positions()[::3]:
                    for e in chase.bell_moves(c):
                        told = unchanged(self, fox_moves, land, k, (c, s), e)
                        self.assertEqual(exact(told), exact(chase.fox_moves(s, e)))
                        self.assertEqual(told == (), s in land[1][e])
                        self.assertTrue(told == () or told in pieces(land, e, k))

    def test_behind(self):
        for land in LANDS:
            chase = Chase(land, 1)
            for c, s in chase.positions()[::4]:
                for e in chase.bell_moves(c):
                    t = (s + 1) % land[0]
                    self.assertEqual(unchanged(self, behind, land, (c, s), e, t), (chase.comes_to(c, e), t))
        self.assertEqual(behind(ROW, (0, 3), 0, 2), (0, 2))
        # Of two corners: border 2 has the first one at both ends, border 0 leads to the other one.
        self.assertEqual([behind(HUNG, (0, 2), e, 1) for e in (2, 0)], [(0, 1), (1, 1)])


class Ranks(unittest.TestCase):

    def test_by_rounds(self):
        for land in SOME + LARGE[:1]:
            for k in numbers_for(land):
                chase = Chase(land, k)
                told = chase.ranks()
                rows = tuple(tuple(told.get((c, s)) for s in range(land[0])) for c in range(chase.corners))
                self.assertEqual(exact(unchanged(self, ranks, land, k)), exact(rows))
                position = chase.positions()[len(rows) * 7 % len(chase.positions())]
                self.assertEqual(unchanged(self, rank_of, land, k, position), told.get(position))

    def test_tables_and_laps(self):
        for land in SOME:
            for k in numbers_for(land):
                told = ranks(land, k)
                table = greatest_table(land, k)
                for c, row in enumerate(told):
                    for s, rank in enumerate(row):
                        self.assertEqual(rank is None, table is not None and s in table[0][c])
                c, s = len(told) // 2, land[0] - 1
                self.assertEqual(told[c][s], lap_of(land, k, c, s))

    def test_no_greater_at_greater_numbers(self):
        for land in SOME:
            goes = goes_at(land)
            for k in {1, goes - 1, goes, goes + 1, goes + 5} - {0}:
                low, high = ranks(land, k), ranks(land, k + 1)
                for row, other in zip(low, high):
                    self.assertFalse(any(greater(late, rank) for rank, late in zip(row, other)))


class BestMoves(unittest.TestCase):

    def test_all_positions(self):
        long = 0
        for land in SOME:
            for k in numbers_for(land):
                chase = Chase(land, k)
                told = chase.ranks()
                dice = Dice(land[0])
                for position in dice.shuffled(chase.positions())[:14]:
                    self.assertEqual(exact(unchanged(self, bell_move, land, k, position)),
                                     exact(chase.bell_move(told, position)))
                    long += told.get(position, 0) > 3
                    for e in chase.bell_moves(position[0])[:3]:
                        self.assertEqual(exact(unchanged(self, fox_move, land, k, position, e)),
                                         exact(chase.fox_move(told, position, e)))
        self.assertGreater(long, 40)


class Wins(unittest.TestCase):

    def test_who_wins(self):
        for land in LANDS + WOVEN + GREAT:
            for k in numbers_for(land):
                told = ranks(land, k)
                table = greatest_table(land, k)
                won = all(None not in row for row in told)
                self.assertIs(unchanged(self, is_won, land, k), won)
                self.assertIs(won, table is None)
                self.assertIs(won, k >= goes_at(land))
                self.assertEqual(unchanged(self, longest_rank, land, k), max(filter(None, sum(told, ()))))
                safe = unchanged(self, refuges, land, k)
                self.assertEqual(exact(safe), exact(((),) * len(told) if table is None else table[0]))
                for c in range(0, len(told), 5):
                    # It wins from one corner just if from all.
                    self.assertIs(unchanged(self, wins_from, land, k, c), won)

    def test_by_hand(self):
        self.assertEqual([is_won(land, 1) for land in (ONE, TRIPLE, ROW, STAR)], [True] * 4)
        self.assertEqual(refuges(ONE, 1), ((),))
        self.assertEqual(longest_rank(ONE, 1), 1)
        self.assertEqual([longest_rank(FOUR, 4), longest_rank(FOUR, 5)], [1, 2])
