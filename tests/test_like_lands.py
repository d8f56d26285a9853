"""[1.4] like lands: begun elsewhere, mirrored, renamed, renumbered, with other lengths."""

import unittest

from foxborders.land import (corners, is_land, mirrored_land, outer_border, renamed_land, renumbered_land, same_land,
                             times_land, with_length)
from tests.lands import FOUR, HUNG, LANDS, ONE, RING, STAR, TRIPLE, Dice, some_lots
from tests.values import exact, unchanged


def begun_elsewhere(land, dice):
    turns = []
    for turn in land[2]:
        begun = dice.below(len(turn))
        turns.append(turn[begun:] + turn[:begun])
    return land[:2] + (tuple(turns), land[3])


class Same(unittest.TestCase):

    def test_turns_begun_elsewhere(self):
        dice = Dice(11)
        for land in LANDS:
            self.assertIs(same_land(land, land), True)
            for _ in range(3):
                self.assertIs(same_land(land, begun_elsewhere(land, dice)), True)
                self.assertIs(same_land(begun_elsewhere(land, dice), land), True)

    def test_other_turns(self):
        self.assertIs(same_land(FOUR, mirrored_land(FOUR)), False)
        self.assertIs(same_land(TRIPLE, mirrored_land(TRIPLE)), False)
        # A turn of two borders is the same backwards.
        self.assertIs(same_land(RING, mirrored_land(RING)), True)
        # The same borders, and only one turn told otherwise, the last one: shire 2 of HUNG in the other corner.
        self.assertIs(same_land(HUNG, HUNG[:2] + (((0, 1, 2), (1, 0), (2,)), HUNG[3])), False)
        self.assertIs(same_land(STAR, STAR[:2] + (STAR[2][:3] + ((0, 2, 1),), STAR[3])), False)

    def test_other_parts(self):
        self.assertIs(same_land(ONE, with_length(ONE, 0, 8)), False)
        self.assertIs(same_land(FOUR, with_length(FOUR, 5, 1)), False)
        self.assertIs(same_land(ONE, TRIPLE), False)
        self.assertIs(same_land(ONE, STAR), False)
        self.assertIs(same_land(STAR, RING), False)
        path = (3, ((0, 1), (0, 2)), ((0, 1), (0,), (1,)), (1, 1))
        other = (3, ((0, 1), (1, 2)), ((0,), (0, 1), (1,)), (1, 1))
        self.assertIs(same_land(path, other), False)
        row = (4, ((0, 1), (1, 2), (2, 3)), ((0,), (0, 1), (1, 2), (2,)), STAR[3])
        self.assertIs(same_land(STAR, row), False)
        self.assertIs(same_land(row, STAR), False)

    def test_many_unlike(self):
        for k, one in enumerate(LANDS):
            for other in LANDS[k + 1:]:
                self.assertIs(same_land(one, other), False)


class Changed(unittest.TestCase):

    def test_mirrored(self):
        self.assertEqual(mirrored_land(FOUR)[2], ((2, 1, 0), (3, 4, 0), (5, 3, 1), (4, 5, 2)))
        self.assertEqual(mirrored_land(TRIPLE)[2], ((2, 1, 0), (0, 1, 2)))
        for land in LANDS:
            n, borders, turns, lengths = land
            self.assertEqual(exact(mirrored_land(land)), exact((n, borders, tuple(turn[::-1] for turn in turns), lengths)))
            self.assertEqual(exact(mirrored_land(mirrored_land(land))), exact(land))

    def test_renamed(self):
        self.assertEqual(renamed_land(HUNG, (2, 0, 1)),
                         (3, ((0, 2), (0, 2), (1, 2)), ((1, 0), (2,), (0, 2, 1)), (3, 4, 5)))
        dice = Dice(12)
        for land in LANDS:
            names = tuple(dice.shuffled(range(land[0])))
            n, borders, turns, lengths = renamed_land(land, names)
            self.assertEqual([n, exact(lengths)], [land[0], exact(land[3])])
            self.assertEqual([{names[a], names[b]} for a, b in land[1]], [set(pair) for pair in borders])
            self.assertEqual([turns[names[s]] for s in range(n)], list(land[2]))
            self.assertEqual(exact(renamed_land(land, tuple(range(n)))), exact(land))
            back = tuple(names.index(s) for s in range(n))
            self.assertEqual(exact(renamed_land((n, borders, turns, lengths), back)), exact(land))

    def test_renumbered(self):
        self.assertEqual(renumbered_land(HUNG, (1, 2, 0)),
                         (3, ((0, 1), (0, 2), (0, 1)), ((2, 1, 0), (0, 2), (1,)), (4, 5, 3)))
        dice = Dice(13)
        for land in LANDS:
            order = tuple(dice.shuffled(range(len(land[1]))))
            n, borders, turns, lengths = renumbered_land(land, order)
            self.assertEqual(n, land[0])
            for k, e in enumerate(order):
                self.assertEqual([borders[k], lengths[k]], [land[1][e], land[3][e]])
            self.assertEqual([tuple(order[k] for k in turn) for turn in turns], list(land[2]))
            self.assertEqual(exact(renumbered_land(land, tuple(range(len(order))))), exact(land))

    def test_with_length(self):
        self.assertEqual([with_length(FOUR, e, 999999999)[3] for e in (0, 3, 5)],
                         [(999999999, 1, 1, 1, 1, 2), (1, 1, 1, 999999999, 1, 2), (1, 1, 1, 1, 1, 999999999)])
        self.assertEqual(with_length(ONE, 0, 1), (2, ((0, 1),), ((0,), (0,)), (1,)))
        for land in LANDS:
            for e in range(len(land[1])):
                longer = with_length(land, e, 12)
                self.assertEqual([exact(longer[:3]), longer[3][e]], [exact(land[:3]), 12])
                self.assertEqual(exact(with_length(longer, e, land[3][e])), exact(land))

    def test_times(self):
        self.assertEqual(times_land(TRIPLE, 1000)[3], (5000, 1000, 999999999000))
        self.assertEqual(times_land(FOUR, 1), FOUR)
        for land in LANDS:
            self.assertEqual(exact(times_land(land, 3)), exact(land[:3] + (tuple(3 * m for m in land[3]),)))

    def test_nothing_modified(self):
        unchanged(self, same_land, FOUR, mirrored_land(FOUR))
        unchanged(self, mirrored_land, FOUR)
        unchanged(self, renamed_land, FOUR, (3, 2, 0, 1))
        unchanged(self, renumbered_land, FOUR, (5, 3, 4, 2, 0, 1))
        unchanged(self, with_length, FOUR, 2, 8)
        unchanged(self, times_land, FOUR, 8)


class ForAll(unittest.TestCase):

    def test_right_lands_with_as_many_corners(self):
        dice = Dice(14)
        for land in LANDS:
            names, order = dice.shuffled(range(land[0])), dice.shuffled(range(len(land[1])))
            changed = (mirrored_land(land), renamed_land(land, tuple(names)), renumbered_land(land, tuple(order)),
                       with_length(land, dice.below(len(order)), 5), times_land(land, 1000))
            for like in changed:
                self.assertIs(is_land(like), True)
                self.assertEqual(len(corners(like)), len(corners(land)))

    def test_outer_borders(self):
        dice = Dice(15)
        for land in LANDS:
            names, order = tuple(dice.shuffled(range(land[0]))), tuple(dice.shuffled(range(len(land[1]))))
            for lot in some_lots(land, dice, 5):
                m = outer_border(land, lot)
                renamed = tuple(names[s] for s in lot)
                self.assertEqual([outer_border(mirrored_land(land), lot), outer_border(renumbered_land(land, order), lot),
                                  outer_border(renamed_land(land, names), renamed)], [m, m, m])
                self.assertEqual(outer_border(times_land(land, 7), lot), 7 * m)
