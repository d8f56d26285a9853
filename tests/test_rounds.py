"""[3.1] to [3.4]: steps, walks, far, and rounds through two borders."""

import unittest

from foxborders.land import ends, outer_border
from foxborders.rounds import (all_far, far, judge_round, judge_walk, length_of, round_of, round_shown, step_from,
                               step_to, walk_of)
from tests.lands import BY_HAND, FOUR, GROWN, HUNG, LANDS, LARGE, ONE, RING, ROW, STAR, TRIPLE, WOVEN, Dice, all_sides
from tests.rounds_oracle import (classes, ends_of, far_table, least_round, round_fault, walk_fault)
from tests.values import changes, exact, odd_values, unchanged

SMALL = [land for land in BY_HAND + GROWN + WOVEN if len(land[1]) <= 9]


class Steps(unittest.TestCase):

    def test_ends(self):
        for land in LANDS:
            for e, w in all_sides(land):
                pair = ends(land, e)
                self.assertEqual([step_from(land, (e, w)), step_to(land, (e, w))], [pair[w], pair[1 - w]])
        # One corner at both ends, either way.
        self.assertEqual([step_from(ROW, (1, 0)), step_to(ROW, (1, 0)), step_to(ROW, (1, 1))], [0, 0, 0])

    def test_length(self):
        self.assertEqual(unchanged(self, length_of, TRIPLE, ()), 0)
        self.assertEqual(length_of(TRIPLE, ((0, 0), (2, 1), (0, 0), (0, 1))), 5 * 3 + 999999999)
        # Also of steps that are no walk.
        self.assertEqual(length_of(STAR, ((2, 0),) * 1000), 2000)
        dice = Dice(4)
        for land in LANDS:
            steps = tuple(dice.pick(all_sides(land)) for _ in range(dice.below(1000)))
            self.assertEqual(length_of(land, steps), sum(land[3][e] * steps.count((e, w)) for e, w in all_sides(land)))


class Walks(unittest.TestCase):

    def test_far(self):
        for land in LANDS:
            table = far_table(land)
            told = unchanged(self, all_far, land)
            self.assertEqual(exact(told), exact(tuple(map(tuple, table))))
            dice = Dice(len(table))
            for _ in range(5):
                c, d = dice.below(len(table)), dice.below(len(table))
                self.assertEqual(far(land, c, d), table[c][d])

    def test_what_holds_for_far(self):
        for land in LANDS:
            told = all_far(land)
            many = range(len(told))
            for c in many:
                for d in many:
                    self.assertEqual(told[c][d] == 0, c == d)
                    self.assertEqual(told[c][d], told[d][c])
                    self.assertTrue(all(told[c][d] <= told[c][b] + told[b][d] for b in many))

    def test_walks(self):
        for land in LANDS:
            many = len(all_far(land))
            dice = Dice(many)
            pairs = [(c, d) for c in range(many) for d in range(many)]
            for c, d in dice.shuffled(pairs)[:40]:
                walk = unchanged(self, walk_of, land, c, d)
                self.assertIsNone(judge_walk(land, c, d, walk))
                self.assertEqual(length_of(land, walk), far(land, c, d))
                self.assertEqual(walk == (), c == d)
                # A walk is one back, too.
                self.assertIsNone(judge_walk(land, d, c, tuple((e, 1 - w) for e, w in walk[::-1])))


class WalksJudged(unittest.TestCase):

    def judged(self, land, c, d, value):
        fault = walk_fault(land, far_table(land), c, d, value)
        self.assertEqual(exact(unchanged(self, judge_walk, land, c, d, value)), exact(fault), (c, d, value))
        return fault and fault[0]

    def test_values_of_other_kinds(self):
        for value in odd_values():
            fault = ("form",) if value != () else ("end", 0)
            self.assertEqual(judge_walk(FOUR, 0, 3, value), fault)
        self.assertIsNone(judge_walk(FOUR, 2, 2, ()))

    def test_form(self):
        for step in ((6, 0), (-1, 0), (0, 2), (0, -1), (0, True), (False, 0), (0, False), (True, True), (0,), (0, 0, 0), [0, 0],
                     None, 0, "00", (0, "0"), (10 ** 59, 0), (0, 10 ** 59), ((0, 0),), ()):
            for value in ((step,), ((0, 0), step), (step, (0, 0)), ((5, 0), step), ((0, 0), (4, 1), (4, 0), step)):
                self.assertEqual(judge_walk(FOUR, 0, 3, value), ("form",))
        self.assertEqual(judge_walk(FOUR, 0, 3, [(3, 0)]), ("form",))
        self.assertEqual(judge_walk(FOUR, 0, 3, (((3, 0),),)), ("form",))

    def test_borders_with_one_corner_at_both_ends(self):
        for land in (ONE, ROW, STAR):
            self.assertIsNone(judge_walk(land, 0, 0, ()))
            self.assertEqual(judge_walk(land, 0, 0, ((0, 1),)), ("long", land[3][0]))
        self.assertEqual(self.judged(HUNG, 0, 1, ((2, 0),)), "end")

    def test_sequence_of_faults(self):
        self.assertEqual(judge_walk(FOUR, 0, 3, ((5, 0), (9, 0))), ("form",))
        self.assertEqual(judge_walk(FOUR, 0, 3, ((0, 0), (5, 0), (5, 0))), ("step", 1))
        self.assertEqual(judge_walk(FOUR, 0, 3, ((0, 0), (0, 1))), ("end", 0))
        self.assertEqual(judge_walk(FOUR, 0, 3, ((0, 0), (0, 1), (3, 0))), ("long", 3))

    def test_steps_at_random(self):
        dice = Dice(9)
        told = []
        for land in SMALL:
            table = far_table(land)
            pairs = ends_of(land)
            for _ in range(60):
                c, d = dice.below(len(table)), dice.below(len(table))
                here, steps = c, []
                for _ in range(dice.below(5)):
                    good = [(e, w) for e, w in all_sides(land) if pairs[e][w] == here or dice.below(12) == 0]
                    e, w = dice.pick(good)
                    steps.append((e, w))
                    here = pairs[e][1 - w]
                told.append(self.judged(land, c, d, tuple(steps)))
        self.assertEqual(set(told), {None, "step", "end", "long"})

    def test_one_part_changed(self):
        for land in (TRIPLE, RING, HUNG, FOUR):
            many = len(all_far(land))
            for c in range(many):
                for value in changes(walk_of(land, c, many - 1)):
                    self.judged(land, c, many - 1, value)


class Rounds(unittest.TestCase):

    def test_round_of(self):
        for land in SMALL + list(GROWN[:20]):
            for e in range(len(land[1])):
                for f in range(len(land[1])):
                    if e != f:
                        self.assertEqual(exact(unchanged(self, round_of, land, e, f)), exact(least_round(land, e, f)))

    def test_round_of_large_lands(self):
        for land in LARGE:
            many = len(land[1])
            for e, f in ((0, 1), (many - 1, 0), (3, many // 2), (7, 5)):
                self.assertEqual(round_of(land, e, f), least_round(land, e, f))

    def test_no_steps_between(self):
        # One corner: no walk lies between two borders. Else there is one at each of three corners but one.
        self.assertEqual([round_of(ROW, 0, 2), round_of(STAR, 1, 2)], [2 + 4, 4 + 2])
        self.assertEqual([round_of(TRIPLE, 0, 1), round_of(TRIPLE, 2, 1)], [6 + 6, 10 ** 9 + 5])

    def test_rounds_shown(self):
        for land in LANDS:
            many = len(land[1])
            dice = Dice(many)
            pairs = [(e, f) for e in range(many) for f in range(many) if e != f]
            for e, f in dice.shuffled(pairs)[:30]:
                shown = unchanged(self, round_shown, land, e, f)
                self.assertIsNone(judge_round(land, e, f, shown))
                self.assertIsNone(judge_round(land, f, e, shown))
                self.assertEqual(length_of(land, shown), round_of(land, e, f))
                # It is a round from each of its corners on.
                self.assertIsNone(judge_round(land, e, f, shown[1:] + shown[:1]))

    def test_what_holds_for_three_borders(self):
        for land in SMALL:
            many = range(len(land[1]))
            told = {(e, f): round_of(land, e, f) for e in many for f in many if e != f}
            for e, f in told:
                self.assertEqual(told[(e, f)], told[(f, e)])
                self.assertGreaterEqual(told[(e, f)], land[3][e] + land[3][f])
                for g in many:
                    if g not in (e, f):
                        self.assertLessEqual(told[(e, g)] + 2 * land[3][f], told[(e, f)] + told[(f, g)])

    def test_what_holds_for_lots(self):
        looked = 0
        for land in SMALL:
            n = land[0]
            for bits in range(1, 2 ** n - 1):
                lot = [s for s in range(n) if bits >> s & 1]
                rest = [s for s in range(n) if s not in lot]
                if len(classes(lot, land[1])) == len(classes(rest, land[1])) == 1:
                    cut = [e for e, (a, b) in enumerate(land[1]) if (a in lot) != (b in lot)]
                    for e in cut:
                        for f in cut[cut.index(e) + 1:]:
                            looked += 1
                            self.assertLessEqual(round_of(land, e, f), outer_border(land, tuple(lot)))
        self.assertGreater(looked, 500)


class RoundsJudged(unittest.TestCase):

    def judged(self, land, e, f, value):
        fault = round_fault(land, e, f, value)
        self.assertEqual(exact(unchanged(self, judge_round, land, e, f, value)), exact(fault), (e, f, value))
        return fault and fault[0]

    def test_values_of_other_kinds(self):
        for value in odd_values() + [[(0, 0)], ((6, 0),), ((0, True),), ([0, 0],), ((0, 0), None), ((0, 2),), ((-1, 0),)]:
            self.assertEqual(judge_round(FOUR, 0, 1, value), ("form",))

    def test_step_0(self):
        # Its begin is told by the end of the last one.
        self.assertEqual(judge_round(FOUR, 0, 1, ((0, 0),)), ("step", 0))
        self.assertEqual(judge_round(FOUR, 0, 1, ((0, 0), (5, 1))), ("step", 0))
        self.assertEqual(judge_round(FOUR, 0, 1, ((0, 0), (0, 0), (0, 1))), ("step", 1))
        self.assertEqual(judge_round(ONE[:1] + (((0, 1), (0, 1)), ((0, 1), (1, 0)), (1, 1)), 0, 1, ((0, 0), (1, 1))),
                         ("step", 0))

    def test_lacks(self):
        self.assertEqual(judge_round(FOUR, 0, 5, ((3, 0), (3, 1))), ("lacks", 0))
        self.assertEqual(judge_round(FOUR, 5, 0, ((3, 0), (3, 1))), ("lacks", 5))
        self.assertEqual(judge_round(FOUR, 5, 0, ((5, 0), (5, 1))), ("lacks", 0))
        self.assertEqual(judge_round(ROW, 1, 0, ((0, 0), (2, 1), (0, 1))), ("lacks", 1))

    def test_one_corner(self):
        self.assertIsNone(judge_round(ROW, 0, 2, ((0, 0), (2, 1))))
        self.assertIsNone(judge_round(ROW, 0, 2, ((2, 1), (0, 1))))
        self.assertEqual(judge_round(ROW, 0, 2, ((2, 1), (0, 1), (0, 0))), ("long", 8))

    def test_steps_at_random(self):
        dice = Dice(12)
        told = []
        for land in SMALL:
            many = len(land[1])
            for _ in range(40 if many > 1 else 0):
                e, f = dice.shuffled(range(many))[:2]
                value = list(round_shown(land, e, f))
                for _ in range(dice.below(3)):
                    place = dice.below(len(value) + 1)
                    step = dice.pick(all_sides(land))
                    back = (step[0], 1 - step[1])
                    value[place:place + dice.below(2)] = dice.pick(([step], [step, back], []))
                told.append(self.judged(land, e, f, tuple(value)))
        self.assertEqual(set(told), {None, "form", "step", "lacks", "long"})

    def test_one_part_changed(self):
        for land, e, f in ((TRIPLE, 0, 2), (RING, 1, 3), (HUNG, 2, 0), (FOUR, 0, 5), (ROW, 0, 1)):
            for value in changes(round_shown(land, e, f)):
                self.judged(land, e, f, value)
