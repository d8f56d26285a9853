"""[6.4] and [6.5]: chases, their judge and their end, and chases played out."""

import unittest

from foxborders.chase import (best_chase, chase_end, hunted, judge_chase, lived, rank_of, refuges)
from foxborders.tables import goes_at
from tests.chase_oracle import Chase
from tests.lands import BY_HAND, FOUR, GREAT, GROWN, HUNG, LARGE, ONE, ROW, STAR, WOVEN, Dice
from tests.values import changes, exact, odd_values, unchanged

MOST = 10 ** 12 - 1
SOME = BY_HAND + GROWN[:20] + WOVEN[:24]


def numbers_for(land):
    goes = goes_at(land)
    return sorted({1, max(goes - 1, 1), goes, MOST})


class Judged(unittest.TestCase):

    def judged(self, land, k, value, chase=None):
        fault = (chase or Chase(land, k)).fault(value)
        self.assertEqual(exact(unchanged(self, judge_chase, land, k, value)), exact(fault), (k, value))
        return fault and fault[0]

    def test_any_value(self):
        for value in odd_values():
            self.assertEqual(judge_chase(FOUR, 4, value), ("form",))

    def test_form(self):
        for value in ([(0, 3), ()], ((0, 3),), ((0, 3), (), ()), ((0, 3), []), ([0, 3], ()), ((4, 0), ()), ((0, 4), ()), ((-1, 0), ()),
                      ((0, -1), ()), ((True, 3), ()), ((0, False), ()), ((0, None), ()), ((0, 3, 0), ()), ((0,), ()), (None, ()),
                      ((0, 3), None), ((0, 3), (0, 2)), ((0, 3), ((6, 2),)), ((0, 3), ((-1, 2),)), ((0, 3), ((0, 4),)),
                      ((0, 3), ((0, -1),)), ((0, 3), ((0, True),)), ((0, 3), ((False, 2),)), ((0, 3), ([0, 2],)), ((0, 3), ((0,),)),
                      ((0, 3), ((0, 2, 2),)), ((0, 3), ((None, 2),)), ((0, 3), ((0, "2"),)), ((0, 3), (("0", 2),)),
                      ((0, 3), ((2, 2), (0, 9))), ("ab", ()), ("ab", "cd"), ((0, 3), "")):
            self.assertEqual(judge_chase(FOUR, 4, value), ("form",), value)

    def test_sequence_of_faults(self):
        self.assertIsNone(judge_chase(FOUR, 4, ((0, 3), ())))
        self.assertIsNone(judge_chase(FOUR, 4, ((0, 0), ((0, None),))))
        # Late goes ahead of bell, bell ahead of fox, a lesser step ahead of all.
        self.assertEqual(judge_chase(FOUR, 4, ((0, 0), ((0, None), (5, 0)))), ("late", 1))
        self.assertEqual(judge_chase(FOUR, 4, ((0, 0), ((0, None), (1, None), (5, 0)))), ("late", 1))
        self.assertEqual(judge_chase(FOUR, 4, ((0, 0), ((5, 0),))), ("bell", 0))
        self.assertEqual(judge_chase(FOUR, 4, ((0, 3), ((0, 1), (5, 0)))), ("fox", 0))
        self.assertEqual(judge_chase(FOUR, 4, ((0, 3), ((0, 3), (1, 1)))), ("bell", 1))
        # A shire told though the fox is caught, None though it is not.
        self.assertEqual(judge_chase(FOUR, 4, ((0, 0), ((0, 0),))), ("fox", 0))
        self.assertEqual(judge_chase(FOUR, 4, ((0, 0), ((0, 2),))), ("fox", 0))
        self.assertEqual(judge_chase(FOUR, 4, ((0, 3), ((0, None), (9, 0)))), ("form",))
        self.assertEqual(judge_chase(FOUR, 4, ((0, 3), ((0, None),))), ("fox", 0))

    def test_one_corner(self):
        self.assertIsNone(judge_chase(ROW, 1, ((0, 3), ((0, 3), (0, 2), (0, 3), (2, None)))))
        self.assertEqual(judge_chase(ROW, MOST, ((0, 3), ((0, 2),))), ("fox", 0))
        self.assertIsNone(judge_chase(ONE, 1, ((0, 1), ((0, None),))))
        self.assertEqual(judge_chase(STAR, 1, ((1, 1), ())), ("form",))
        self.assertIsNone(judge_chase(HUNG, 1, ((0, 2), ((0, 2), (1, 2)) * 30)))

    def test_at_random(self):
        dice = Dice(41)
        told = []
        for land in SOME:
            for k in numbers_for(land):
                chase = Chase(land, k)
                for _ in range(12):
                    c, s = position = dice.pick(chase.positions())
                    steps = []
                    while s is not None and len(steps) < 5:
                        e = dice.pick(chase.bell_moves(c)) if dice.below(15) else dice.below(len(land[1]))
                        t = dice.pick(chase.fox_moves(s, e) or (None,)) if dice.below(15) else dice.below(land[0])
                        steps.append((e, t))
                        c, s = chase.comes_to(c, e) if c in chase.ends[e] else c, t
                    if dice.below(9) == 0:
                        steps.append((0, None))
                    told.append(self.judged(land, k, (position, tuple(steps)), chase))
        self.assertEqual(set(told), {None, "late", "bell", "fox"})

    def test_one_part_changed(self):
        for land, k, value in ((FOUR, 4, ((0, 3), ((0, 2), (0, 3)))), (FOUR, 5, best_chase(FOUR, 5, (0, 3))),
                               (ROW, 1, ((0, 3), ((1, 3), (0, 2), (2, None))))):
            chase = Chase(land, k)
            self.assertIsNone(chase.fault(value))
            for changed in changes(value):
                self.judged(land, k, changed, chase)

    def test_many_steps(self):
        value = ((0, 3), ((0, 2), (0, 3)) * 1000)
        self.assertIsNone(judge_chase(FOUR, 4, value))
        self.assertEqual(chase_end(FOUR, value), (0, 3))
        self.assertEqual(judge_chase(FOUR, 4, (value[0], value[1] + ((0, None),))), ("fox", 2000))


class Ends(unittest.TestCase):

    def test_ends(self):
        dice = Dice(29)
        ended = []
        for land in SOME:
            for k in numbers_for(land):
                chase = Chase(land, k)
                c, s = position = dice.pick(chase.positions())
                steps = []
                while s is not None and len(steps) < dice.below(9):
                    e = dice.pick(chase.bell_moves(c))
                    s = dice.pick(chase.fox_moves(s, e) or (None,))
                    c = chase.comes_to(c, e)
                    steps.append((e, s))
                told = unchanged(self, chase_end, land, (position, tuple(steps)))
                self.assertEqual(exact(told), exact(None if s is None else (c, s)))
                ended.append(told is None)
        self.assertGreater(ended.count(True), 10)
        self.assertGreater(ended.count(False), 10)
        self.assertEqual(chase_end(FOUR, ((2, 1), ())), (2, 1))


class PlayedOut(unittest.TestCase):

    def each(self, lands, many):
        for land in lands:
            for k in numbers_for(land):
                chase = Chase(land, k)
                told = chase.ranks()
                for position in Dice(len(told)).shuffled(chase.positions())[:many]:
                    yield land, k, chase, told, position

    def test_best_chases(self):
        lengths = set()
        for land, k, chase, told, position in self.each(SOME, 6):
            rank = told.get(position)
            if rank is not None:
                value = unchanged(self, best_chase, land, k, position)
                self.assertEqual(value[0], position)
                self.assertEqual(len(value[1]), rank)
                self.assertIsNone(chase.fault(value))
                self.assertIsNone(chase_end(land, value))
                c, s = position
                for e, t in value[1]:
                    self.assertEqual(e, chase.bell_move(told, (c, s)))
                    self.assertEqual(t, chase.fox_move(told, (c, s), e))
                    c, s = chase.comes_to(c, e), t
                lengths.add(rank)
        self.assertGreater(len(lengths), 5)

    def test_hunted(self):
        dice = Dice(6)
        for land, k, chase, told, position in self.each(SOME, 4):
            rank = told.get(position)
            if rank is not None:
                # No picks, fewer than steps, more than steps.
                for picks in ((), (5,), tuple(dice.below(10 ** 9) for _ in range(dice.below(4))), (999999999,) * 200):
                    value = unchanged(self, hunted, land, k, position, picks)
                    self.assertEqual(value[0], position)
                    self.assertLessEqual(len(value[1]), rank)
                    self.assertIsNone(chase.fault(value))
                    self.assertIsNone(chase_end(land, value))
                    c, s = position
                    for i, (e, t) in enumerate(value[1]):
                        self.assertEqual(e, chase.bell_move(told, (c, s)))
                        moves = chase.fox_moves(s, e)
                        pick = (list(picks) + [0] * len(value[1]))[i]
                        self.assertEqual(t, moves[pick % len(moves)] if moves else None)
                        c, s = chase.comes_to(c, e), t

    def test_lived(self):
        dice = Dice(8)
        safe = 0
        for land, k, chase, told, position in self.each(SOME, 4):
            for picks in ((), (0,), tuple(dice.below(10 ** 9) for _ in range(40))):
                value = unchanged(self, lived, land, k, position, picks)
                self.assertEqual(value[0], position)
                self.assertIsNone(chase.fault(value))
                caught = chase_end(land, value) is None
                self.assertTrue(len(value[1]) == len(picks) or caught)
                c, s = position
                for pick, (e, t) in zip(picks, value[1]):
                    moves = chase.bell_moves(c)
                    self.assertEqual(e, moves[pick % len(moves)])
                    self.assertEqual(t, chase.fox_move(told, (c, s), e))
                    c, s = chase.comes_to(c, e), t
                    if told.get(position) is None:
                        safe += 1
                        self.assertIn(s, refuges(land, k)[c])
                self.assertFalse(caught and told.get(position) is None)
        self.assertGreater(safe, 500)

    def test_great_lands(self):
        for land in LARGE + GREAT:
            goes = goes_at(land)
            for k in {1, max(goes - 1, 1), goes, MOST}:
                for position in ((0, 0), (0, land[0] - 1)):
                    value = lived(land, k, position, (7, 999999999, 3, 0) * 50)
                    self.assertIsNone(judge_chase(land, k, value))
                    rank = rank_of(land, k, position)
                    if rank is not None:
                        self.assertEqual(len(best_chase(land, k, position)[1]), rank)
                        self.assertIsNone(judge_chase(land, k, hunted(land, k, position, (1, 2, 3) * 66)))
                    else:
                        self.assertEqual(len(value[1]), 200)
