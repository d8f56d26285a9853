"""[9.1] to [9.6] and [9.8]: loads, trees of borders, angles and the land of turns, least loads, smaller lands."""

import unittest

from foxborders.bordertrees import (angles, best_tree, corner_load, corner_tree_load, land_of_turns, least_load,
                                    meeting_corners, meeting_shires, one_corner_borders, outer_in_turns, shire_load,
                                    tree_load)
from foxborders.changes import joined, shrunk
from foxborders.land import corners, judge_land, outer_border, renumbered_land
from foxborders.plans import formed, width
from foxborders.verdicts import least_width
from tests.lands import (BY_HAND, FOUR, GREAT, GROWN, HUNG, LANDS, LARGE, ONE, RING, ROW, STAR, TRIPLE, WOVEN, Dice, board,
                         grown_land, prism, woven_land)
from tests.changes_oracle import all_lots, is_right
from tests.plans_oracle import cut, in_form, random_plan
from tests.trees_oracle import (angles_of, by_corners, by_shires, greatest_load, least_load_of_all, load_by, turns_land)
from tests.values import exact, unchanged

DOUBLE = (2, ((0, 1), (0, 1)), ((0, 1), (1, 0)), (3, 4))
FIVE_STAR = (5, ((0, 1), (0, 2), (0, 3), (0, 4)), ((0, 1, 2, 3), (0,), (1,), (2,), (3,)), (1, 1, 1, 1))
# All kinds of lands of six borders at most.
UP_TO_SIX = tuple(land for land in BY_HAND + GROWN + WOVEN if len(land[1]) <= 6) + (DOUBLE, board(2, 3)) + tuple(
    grown_land(300 + seed, 2 + seed % 5, 6 - seed % 2) for seed in range(25))
# As large as callers may pass them to least_load.
TWENTY = (prism(6), board(3, 4), board(4, 3), grown_land(21, 10, 20), grown_land(22, 21, 20),
          grown_land(23, 2, 20), woven_land(3, 9, 2), prism(4), grown_land(24, 7, 20), woven_land(17, 9))
SOME = tuple(land for land in LANDS + WOVEN if len(land[1]) <= 20) + TWENTY


def small_lots(land, dice, many=14):
    """Lots of borders, that of all and single ones among them."""
    m = len(land[1])
    lots = [tuple(range(m)), (0,), (m - 1,)]
    for _ in range(many):
        lots.append(tuple(sorted(dice.shuffled(range(m))[:1 + dice.below(m)])))
    return lots


class Loads(unittest.TestCase):

    def test_by_words(self):
        dice = Dice(91)
        for land in LANDS + GREAT:
            for lot in small_lots(land, dice):
                shires, meeting = load_by(by_shires(land), lot), load_by(by_corners(land), lot)
                self.assertEqual(exact(unchanged(self, meeting_shires, land, lot)), exact(shires))
                self.assertEqual(exact(unchanged(self, meeting_corners, land, lot)), exact(meeting))
                self.assertEqual(exact(unchanged(self, shire_load, land, lot)), exact(len(shires)))
                self.assertEqual(exact(unchanged(self, corner_load, land, lot)), exact(len(meeting)))

    def test_by_hand(self):
        self.assertEqual([meeting_shires(ONE, (0,)), meeting_corners(ONE, (0,)), shire_load(ONE, (0,))], [(), (), 0])
        self.assertEqual([meeting_shires(ROW, (0, 1)), meeting_corners(ROW, (0, 1))], [(2,), (0,)])
        self.assertEqual([meeting_shires(TRIPLE, (1,)), meeting_corners(TRIPLE, (1,))], [(0, 1), corners_at(TRIPLE, 1)])
        self.assertEqual([shire_load(HUNG, (2,)), corner_load(HUNG, (2,))], [1, 1])
        self.assertEqual([shire_load(STAR, (0, 2)), corner_load(STAR, (0, 2))], [1, 1])

    def test_a_lot_and_the_rest(self):
        dice = Dice(92)
        for land in LANDS:
            everything = tuple(range(len(land[1])))
            self.assertEqual([shire_load(land, everything), corner_load(land, everything)], [0, 0])
            for lot in small_lots(land, dice, 6):
                rest = tuple(e for e in everything if e not in lot)
                if rest:
                    self.assertEqual(meeting_shires(land, rest), meeting_shires(land, lot))
                    self.assertEqual(meeting_corners(land, rest), meeting_corners(land, lot))

    def test_two_lots(self):
        dice = Dice(93)
        for land in LANDS:
            lots = small_lots(land, dice, 4)
            for one in lots:
                for other in lots:
                    both = tuple(sorted(set(one) & set(other)))
                    either = tuple(sorted(set(one) | set(other)))
                    for load in (shire_load, corner_load):
                        shared = load(land, both) if both else 0
                        self.assertLessEqual(load(land, either) + shared, load(land, one) + load(land, other))


def corners_at(land, e):
    return tuple(sorted(set(by_corners(land)[e])))


class Trees(unittest.TestCase):

    def test_loads_of_trees(self):
        dice = Dice(94)
        for land in LANDS + GREAT:
            for _ in range(2):
                tree = random_plan(dice, range(len(land[1])))
                told = unchanged(self, tree_load, land, tree)
                self.assertEqual(exact(told), exact(greatest_load(by_shires(land), tree)))
                meeting = unchanged(self, corner_tree_load, land, tree)
                self.assertEqual(exact(meeting), exact(greatest_load(by_corners(land), tree)))
                # Also in its form.
                self.assertEqual([tree_load(land, formed(tree)), corner_tree_load(land, formed(tree))], [told, meeting])

    def test_one_border(self):
        self.assertEqual([tree_load(ONE, 0), corner_tree_load(ONE, 0), least_load(ONE), best_tree(ONE)], [0, 0, 0, 0])
        self.assertEqual([angles(ONE), outer_in_turns(ONE, (0,)), one_corner_borders(ONE)], [(), 0, (0,)])

    def test_by_hand(self):
        self.assertEqual([tree_load(ROW, ((0, 1), 2)), corner_tree_load(ROW, ((0, 1), 2))], [2, 1])
        self.assertEqual([tree_load(RING, ((0, 2), (1, 3))), corner_tree_load(RING, ((0, 2), (1, 3)))], [4, 2])
        self.assertEqual([tree_load(STAR, ((0, 1), 2)), tree_load(DOUBLE, (1, 0)), tree_load(TRIPLE, ((2, 1), 0))], [1, 2, 2])


class Turns(unittest.TestCase):

    def test_angles(self):
        for land in LANDS + GREAT:
            self.assertEqual(exact(unchanged(self, angles, land)), exact(angles_of(land)))
        # Two borders stand next to one another on both sides of each of their shires.
        self.assertEqual(angles(DOUBLE), ((0, 0, 1, 0), (0, 1, 0, 1), (1, 1, 0, 0), (1, 0, 1, 1)))

    def test_land_of_turns(self):
        for land in LANDS + GREAT:
            if len(land[1]) > 1:
                told = unchanged(self, land_of_turns, land)
                self.assertEqual(exact(told), exact(turns_land(land)))
                self.assertIsNone(judge_land(told))
                self.assertTrue(is_right(told))

    def test_corners_of_the_land_of_turns(self):
        # They are the corners of the land, and its shires of two borders or more, each with its own angles.
        for land in LANDS + GREAT:
            if len(land[1]) > 1:
                told = angles(land)
                about = [sorted(i for i, angle in enumerate(told) if angle[3] == c) for c in range(len(corners(land)))]
                about += [sorted(i for i, angle in enumerate(told) if angle[0] == s) for s in range(land[0])
                          if len(land[2][s]) > 1]
                rounds = [sorted(i for i, _ in sides) for sides in corners(land_of_turns(land))]
                self.assertEqual(sorted(rounds), sorted(about))

    def test_two_borders_between_two_shires(self):
        told = land_of_turns(DOUBLE)
        self.assertEqual(told[:2], (2, ((0, 1),) * 4))
        self.assertIsNone(judge_land(told))

    def test_outer_in_turns(self):
        dice = Dice(95)
        for land in LANDS + GREAT:
            for lot in small_lots(land, dice, 6):
                told = unchanged(self, outer_in_turns, land, lot)
                self.assertEqual(exact(told), exact(sum((e in lot) != (f in lot) for _, e, f, _ in angles_of(land))))
                self.assertEqual(told % 2, 0)
                self.assertGreaterEqual(told, 2 * max(shire_load(land, lot), corner_load(land, lot)))
                if len(land[1]) > 1:
                    self.assertEqual(told, outer_border(land_of_turns(land), lot))
                    self.assertEqual(told, cut(turns_land(land), lot))

    def test_next_to_one_another(self):
        both = []
        for land in UP_TO_SIX:
            for lot in all_lots(len(land[1])):
                # At most one run of the lot's borders in each turn, seen round about.
                runs = [sum(turn[k - 1] not in lot and turn[k] in lot for k in range(len(turn))) for turn in land[2]]
                both.append(max(runs) < 2)
                self.assertEqual(outer_in_turns(land, lot) == 2 * shire_load(land, lot), both[-1])
        self.assertGreater(min(both.count(True), both.count(False)), 50)

    def test_plans_of_the_land_of_turns(self):
        dice = Dice(96)
        for land in LANDS:
            if len(land[1]) > 1:
                plan = random_plan(dice, range(len(land[1])))
                half = width(land_of_turns(land), plan)
                self.assertLessEqual(2 * max(tree_load(land, plan), corner_tree_load(land, plan)), half)


class LeastLoads(unittest.TestCase):

    def test_by_all_trees(self):
        found = []
        for land in UP_TO_SIX:
            told = unchanged(self, least_load, land)
            self.assertEqual(exact(told), exact(least_load_of_all(land, by_shires(land))))
            found.append(told)
            corner = least_load_of_all(land, by_corners(land))
            if one_corner_borders(land) == ():
                self.assertEqual(corner, told)
            self.assertLessEqual(corner, told)
        self.assertEqual(set(found), {0, 1, 2, 3})

    def test_best_trees(self):
        for land in SOME:
            told, least = unchanged(self, best_tree, land), least_load(land)
            self.assertEqual(exact(told), exact(in_form(told)))
            self.assertEqual(greatest_load(by_shires(land), told), least)
            self.assertLessEqual(greatest_load(by_corners(land), told), least)
            if one_corner_borders(land) == ():
                self.assertEqual(corner_tree_load(land, told), least)

    def test_half_of_the_land_of_turns(self):
        for land in SOME:
            if len(land[1]) > 1:
                self.assertEqual(2 * least_load(land), least_width(land_of_turns(land)))

    def test_by_hand(self):
        self.assertEqual([least_load(land) for land in (ONE, DOUBLE, TRIPLE, ROW, STAR, FIVE_STAR, RING, HUNG, FOUR)],
                         [0, 2, 2, 2, 1, 1, 2, 2, 3])
        # Three borders one behind another have less by corners.
        self.assertEqual(least_load_of_all(ROW, by_corners(ROW)), 1)
        self.assertEqual([least_load(prism(n)) for n in (3, 4, 6)], [3, 4, 4])
        self.assertEqual([least_load(board(2, n)) for n in (2, 3, 5)], [2, 2, 2])

    def test_lengths_and_numbers_do_not_matter(self):
        dice = Dice(97)
        for land in SOME[:30]:
            order = tuple(dice.shuffled(range(len(land[1]))))
            longer = land[:3] + (tuple(length * 7 + 1 for length in land[3]),)
            self.assertEqual(least_load(longer), least_load(land))
            self.assertEqual(least_load(renumbered_land(land, order)), least_load(land))

    def test_one_corner_borders(self):
        for land in LANDS + GREAT:
            told = tuple(e for e, (c, d) in enumerate(by_corners(land)) if c == d)
            self.assertEqual(exact(unchanged(self, one_corner_borders, land)), exact(told))
            # Without such a border the land is in two pieces.
            for e in range(len(land[1])):
                self.assertEqual(e in told, shrunk(land, e) is None)

    def test_smaller_lands(self):
        fell = []
        for land in tuple(land for land in SOME if len(land[1]) <= 14):
            least = least_load(land)
            for e in range(len(land[1])):
                for change in (joined, shrunk):
                    less = change(land, e)
                    if less is not None:
                        fell.append(least - least_load(less))
                        self.assertIn(fell[-1], (0, 1) if len(less[1]) > 1 else (0, 1, 2))
        self.assertEqual(set(fell), {0, 1, 2})

    def test_sizes(self):
        for land in LARGE + TWENTY:
            m = len(land[1])
            ladder = 0
            for e in range(1, m):
                ladder = (ladder, e)
            self.assertEqual(tree_load(land, ladder), greatest_load(by_shires(land), ladder))
            self.assertEqual(corner_tree_load(land, ladder), greatest_load(by_corners(land), ladder))
