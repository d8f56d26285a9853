"""[1.1] sides and shires, and [1.2] corners."""

import unittest

from foxborders.land import (back_of, begin_of, borders_at, corner_number, corner_of, corners, end_of, ends, neighbours,
                             next_side, shires_at)
from tests.lands import FOUR, HUNG, LANDS, ONE, RING, ROW, STAR, TRIPLE, all_sides, count_corners
from tests.values import exact, unchanged


class Sides(unittest.TestCase):

    def test_begin_and_end(self):
        self.assertEqual([begin_of(FOUR, (4, 0)), end_of(FOUR, (4, 0))], [1, 3])
        self.assertEqual([begin_of(FOUR, (4, 1)), end_of(FOUR, (4, 1))], [3, 1])
        for land in LANDS:
            for e, (a, b) in enumerate(land[1]):
                self.assertEqual([begin_of(land, (e, 0)), end_of(land, (e, 0))], [a, b])
                self.assertEqual([begin_of(land, (e, 1)), end_of(land, (e, 1))], [b, a])

    def test_back(self):
        self.assertEqual([exact(back_of((0, 0))), exact(back_of((59, 1)))], ["(0, 1)", "(59, 0)"])

    def test_borders_at(self):
        self.assertEqual([borders_at(FOUR, shire) for shire in range(4)], [(0, 1, 2), (0, 3, 4), (1, 3, 5), (2, 4, 5)])
        self.assertEqual([borders_at(TRIPLE, 1), borders_at(STAR, 1), borders_at(HUNG, 0)], [(0, 1, 2), (1,), (0, 1, 2)])
        for land in LANDS:
            for shire in range(land[0]):
                lying = tuple(e for e, pair in enumerate(land[1]) if shire in pair)
                self.assertEqual(borders_at(land, shire), lying)

    def test_neighbours(self):
        self.assertEqual([neighbours(FOUR, 3), neighbours(TRIPLE, 0), neighbours(TRIPLE, 1)], [(0, 1, 2), (1,), (0,)])
        self.assertEqual([neighbours(HUNG, 0), neighbours(STAR, 3), neighbours(ROW, 2)], [(1, 2), (0, 1, 2), (1, 3)])
        for land in LANDS:
            for shire in range(land[0]):
                others = {a + b - shire for a, b in land[1] if shire in (a, b)}
                self.assertEqual(neighbours(land, shire), tuple(sorted(others)))

    def test_nothing_modified(self):
        for call in (begin_of, end_of, next_side, corner_of, corner_number):
            unchanged(self, call, FOUR, (3, 1))
        for call in (borders_at, neighbours, ends, shires_at):
            unchanged(self, call, FOUR, 2)
        unchanged(self, corners, FOUR)


class Corners(unittest.TestCase):

    def test_next_side_is_the_one_before(self):
        # In the turn of shire 3 of STAR border 1 stands behind border 0 and before border 2.
        self.assertEqual([next_side(STAR, (1, 0)), next_side(STAR, (2, 0)), next_side(STAR, (0, 0))],
                         [(0, 1), (1, 1), (2, 1)])
        for land in LANDS:
            for side in all_sides(land):
                behind = next_side(land, side)
                shire = end_of(land, side)
                turn = land[2][shire]
                self.assertEqual(begin_of(land, behind), shire)
                self.assertEqual(turn[(turn.index(behind[0]) + 1) % len(turn)], side[0])

    def test_shires_with_one_border(self):
        self.assertEqual([next_side(ONE, (0, 0)), next_side(ONE, (0, 1))], [(0, 1), (0, 0)])
        self.assertEqual(next_side(ROW, (2, 0)), (2, 1))

    def test_by_hand(self):
        self.assertEqual(corners(ONE), (((0, 0), (0, 1)),))
        self.assertEqual(corners(TRIPLE), (((0, 0), (1, 1)), ((0, 1), (2, 0)), ((1, 0), (2, 1))))
        self.assertEqual(corners(ROW), (((0, 0), (1, 0), (2, 0), (2, 1), (1, 1), (0, 1)),))
        self.assertEqual(corners(RING), (((0, 0), (1, 0), (2, 0), (3, 1)), ((0, 1), (3, 0), (2, 1), (1, 1))))
        self.assertEqual(corners(HUNG), (((0, 0), (1, 1), (2, 0), (2, 1)), ((0, 1), (1, 0))))

    def test_corner_of_begins_with_the_least(self):
        self.assertEqual([corner_of(ROW, side) for side in ((2, 1), (0, 0), (1, 0))], [corners(ROW)[0]] * 3)
        self.assertEqual(corner_of(FOUR, (5, 1)), ((3, 1), (4, 0), (5, 1)))

    def test_rounds(self):
        for land in LANDS:
            rounds = corners(land)
            self.assertEqual(list(rounds), sorted(rounds))
            self.assertEqual(sorted(side for sides in rounds for side in sides), all_sides(land))
            self.assertEqual(len(rounds), count_corners(land[2]))
            for c, sides in enumerate(rounds):
                self.assertIs(type(sides), tuple)
                self.assertEqual(sides[0], min(sides))
                for place, side in enumerate(sides):
                    self.assertEqual(next_side(land, side), sides[(place + 1) % len(sides)])
                    self.assertEqual(corner_of(land, side), sides)
                    self.assertEqual(corner_number(land, side), c)

    def test_ends(self):
        self.assertEqual([ends(ONE, 0), ends(ROW, 1), ends(HUNG, 2), ends(HUNG, 0), ends(HUNG, 1)],
                         [(0, 0), (0, 0), (0, 0), (0, 1), (1, 0)])
        self.assertEqual([ends(TRIPLE, e) for e in range(3)], [(0, 1), (2, 0), (1, 2)])
        for land in LANDS:
            for e in range(len(land[1])):
                self.assertEqual(ends(land, e), (corner_number(land, (e, 0)), corner_number(land, (e, 1))))

    def test_shires_at(self):
        self.assertEqual([shires_at(ROW, 0), shires_at(HUNG, 0), shires_at(HUNG, 1), shires_at(FOUR, 2)],
                         [(0, 1, 2, 3), (0, 1, 2), (0, 1), (0, 2, 3)])
        for land in LANDS:
            for c, sides in enumerate(corners(land)):
                self.assertEqual(shires_at(land, c), tuple(sorted({land[1][e][w] for e, w in sides})))

    def test_euler(self):
        for land in LANDS:
            self.assertEqual(land[0] - len(land[1]) + len(corners(land)), 2)
