"""[12.1] to [12.5]: boards, deeds done, undone and redone, what is told of boards, all deeds, the short way."""

import copy
import unittest

from foxborders.errors import BadDeed, NothingDone
from foxborders.kept import (all_deeds, boards, done, is_deed, new_board, redone, short_way, told_now, undone, width_now,
                             widths_of)
from foxborders.land import judge_land, outer_border
from foxborders.verdicts import best_joins, judge_told, least_width, told_for
from tests.boards_oracle import NO_DEEDS, land_behind, some_deed, some_deeds
from tests.lands import BY_HAND, FOUR, GROWN, HUNG, ONE, RING, ROW, STAR, TRIPLE, WOVEN, Dice, board, grown_land, woven_land
from tests.plans_oracle import least_width_of_all
from tests.values import changes, exact, odd_values, unchanged

SOME = tuple(land for land in BY_HAND + GROWN + WOVEN if land[0] <= 9 and len(land[1]) <= 20)
# As large as callers may pass them.
NINE = (grown_land(81, 9, 20, 999999999), woven_land(82, 9, 5), board(3, 3, (2, 1, 3)), grown_land(83, 9, 8), grown_land(84, 2, 20, 9))


def played(dice, land, many):
    """A board with so many deeds, and all boards ahead."""
    deeds, _ = some_deeds(dice, land, many)
    told = [new_board(land)]
    for deed in deeds:
        told.append(done(told[-1], deed))
    return told


class Boards(unittest.TestCase):

    def test_new_boards(self):
        for land in SOME + NINE:
            told = unchanged(self, new_board, land)
            self.assertEqual(exact(sorted(told.items())), exact([("back", ()), ("first", land), ("land", land), ("log", ())]))
            self.assertIs(type(told), dict)

    def test_deeds_done(self):
        dice = Dice(31)
        words = []
        for land in SOME + NINE:
            deeds, lands = some_deeds(dice, land, 8)
            told = new_board(land)
            for many, (deed, behind) in enumerate(zip(deeds, lands[1:]), 1):
                words.append(deed[0])
                self.assertIs(unchanged(self, is_deed, told, deed), True)
                told = unchanged(self, done, told, deed)
                self.assertEqual(exact([told["land"], told["first"], told["log"], told["back"]]),
                                 exact([behind, land, tuple(deeds[:many]), ()]))
                self.assertEqual(sorted(told), ["back", "first", "land", "log"])
                self.assertIsNone(judge_land(told["land"]))
        self.assertGreater(min(words.count(word) for word in ("length", "join", "shrink")), 30)

    def test_done_takes_away_what_was_taken_back(self):
        told = undone(done(new_board(FOUR), ("join", 3)))
        self.assertEqual(told["back"], (("join", 3),))
        self.assertEqual(done(told, ("join", 2))["back"], ())
        # Also where the same deed is done.
        self.assertEqual(done(told, ("join", 3)), done(new_board(FOUR), ("join", 3)))

    def test_boards_are_not_changed(self):
        dice = Dice(32)
        for land in SOME[:20]:
            told = played(dice, land, 5)
            before = copy.deepcopy(told)
            for board_told in told:
                undone(done(board_told, some_deed(dice, board_told["land"])))
                boards(board_told)
            self.assertEqual(exact(told), exact(before))


class Deeds(unittest.TestCase):

    def check(self, told, value):
        good = land_behind(told["land"], value) is not None
        self.assertIs(unchanged(self, is_deed, told, value), good, value)
        if not good:
            before = copy.deepcopy(told)
            with self.assertRaises(BadDeed) as caught:
                done(told, value)
            self.assertIs(type(caught.exception), BadDeed)
            self.assertEqual(exact(told), exact(before))
        return good

    def test_no_deeds(self):
        for land in (FOUR, ONE, RING, ROW, HUNG):
            for value in NO_DEEDS + tuple(odd_values()):
                self.assertFalse(self.check(new_board(land), value), value)

    def test_lengths(self):
        told = new_board(TRIPLE)
        for m, good in ((5, False), (4, True), (6, True), (1, True), (0, False), (-5, False), (10 ** 59, True), (True, False)):
            self.assertEqual(self.check(told, ("length", 0, m)), good)
        # A length that a border has by now is none, that which it had at first is one.
        later = done(told, ("length", 0, 6))
        self.assertEqual([self.check(later, ("length", 0, 6)), self.check(later, ("length", 0, 5))], [False, True])

    def test_joins_and_shrinks_that_cannot_be(self):
        for land in (ONE, TRIPLE):
            for e in range(len(land[1])):
                self.assertFalse(self.check(new_board(land), ("join", e)))
        for land in (ONE, ROW, STAR):
            for e in range(len(land[1])):
                self.assertFalse(self.check(new_board(land), ("shrink", e)))
        self.assertEqual([self.check(new_board(HUNG), ("shrink", e)) for e in (0, 1, 2)], [True, True, False])
        self.assertEqual([self.check(new_board(TRIPLE), ("shrink", e)) for e in (0, 1, 2, 3)], [True, True, True, False])

    def test_numbers_of_borders_as_they_stand(self):
        told = done(new_board(FOUR), ("join", 0))
        self.assertEqual([self.check(told, ("shrink", 4)), self.check(told, ("shrink", 5)), self.check(told, ("join", 5))],
                         [True, False, False])

    def test_one_part_changed(self):
        for land in (FOUR, HUNG, ONE):
            for deed in (("length", 0, 1), ("length", 2, 77), ("join", 1), ("shrink", 0)):
                for value in changes(deed):
                    self.check(new_board(land), value)


class Back(unittest.TestCase):

    def test_undone_and_redone(self):
        dice = Dice(33)
        for land in SOME[::2] + NINE:
            told = played(dice, land, 6)
            here = told[-1]
            for many in range(5, -1, -1):
                here = unchanged(self, undone, here)
                ahead = told[many]
                self.assertEqual(exact([here["land"], here["first"], here["log"]]), exact([ahead["land"], land, ahead["log"]]))
                self.assertEqual(here["back"], told[-1]["log"][many:][::-1])
                self.assertEqual(sorted(here), ["back", "first", "land", "log"])
            with self.assertRaises(NothingDone):
                undone(here)
            for many in range(1, 7):
                here = unchanged(self, redone, here)
                self.assertEqual(exact([here["land"], here["log"]]), exact([told[many]["land"], told[many]["log"]]))
                self.assertEqual(here["back"], told[-1]["log"][many:][::-1])
            self.assertEqual(exact(here), exact(told[-1]))
            with self.assertRaises(NothingDone):
                redone(here)

    def test_nothing_done(self):
        for call in (undone, redone):
            with self.assertRaises(NothingDone) as caught:
                unchanged(self, call, new_board(FOUR))
            self.assertIs(type(caught.exception), NothingDone)
        with self.assertRaises(NothingDone):
            redone(done(undone(done(new_board(FOUR), ("join", 1))), ("join", 2)))

    def test_some_way_back(self):
        told = played(Dice(34), FOUR, 5)
        here = undone(undone(undone(told[-1])))
        here = undone(done(redone(here), ("length", 0, 77)))
        self.assertEqual([here["log"], here["back"]], [told[3]["log"], (("length", 0, 77),)])
        self.assertEqual(here["land"], told[3]["land"])

    def test_boards(self):
        dice = Dice(35)
        for land in SOME[::2] + NINE:
            told = played(dice, land, 5)
            self.assertEqual(exact(unchanged(self, boards, told[-1])), exact(told))
            here = undone(undone(told[-1]))
            self.assertEqual(exact(boards(here)), exact(told[:4]))
            self.assertEqual([one["back"] for one in boards(here)], [()] * 4)
            self.assertIs(type(boards(here)), list)
            self.assertEqual(boards(new_board(land)), [new_board(land)])

    def test_what_callers_change_in_the_list(self):
        told = played(Dice(36), FOUR, 3)[-1]
        boards(told).clear()
        self.assertEqual(len(boards(told)), 4)


class Told(unittest.TestCase):

    def test_widths(self):
        dice = Dice(37)
        for land in SOME[::2] + NINE:
            told = played(dice, land, 6)
            widths = tuple(least_width(one["land"]) for one in told)
            self.assertEqual(exact(unchanged(self, widths_of, told[-1])), exact(widths))
            self.assertEqual(widths_of(undone(told[-1])), widths[:-1])
            self.assertEqual([unchanged(self, width_now, one) for one in told], list(widths))
            if land[0] <= 5:
                self.assertEqual(list(widths), [least_width_of_all(one["land"]) for one in told])

    def test_told(self):
        dice = Dice(38)
        for land in SOME[::3] + NINE:
            here = played(dice, land, 3)[-1]
            least = width_now(here)
            for k in (1, least, least + 1, 999999999):
                told = unchanged(self, told_now, here, k)
                self.assertIsNone(judge_told(here["land"], k, told))
                self.assertEqual(exact(told), exact(told_for(here["land"], k)))
                self.assertEqual(told[0] == "plan", k > least)

    def test_what_deeds_do_to_the_width(self):
        seen = {}
        for land in SOME[::2] + NINE[1:3]:
            here = new_board(land)
            least = width_now(here)
            for e, (a, b) in enumerate(land[1]):
                up = width_now(done(here, ("length", e, land[3][e] + 1))) - least
                self.assertIn(up, (0, 1))
                seen.setdefault("length", set()).add(up)
                if is_deed(here, ("shrink", e)):
                    down = least - width_now(done(here, ("shrink", e)))
                    self.assertTrue(0 <= down <= land[3][e])
                    seen.setdefault("shrink", set()).add(down > 0)
                if is_deed(here, ("join", e)):
                    behind = width_now(done(here, ("join", e)))
                    two = max(outer_border(land, (a,)), outer_border(land, (b,)))
                    self.assertLessEqual(least, max(behind, two))
                    if behind < least:
                        self.assertEqual(two, least)
                    seen.setdefault("join", set()).add((behind > least) - (behind < least))
            if land[0] > 2:
                self.assertTrue(any(width_now(done(here, ("join", e))) <= least for e in range(len(land[1]))))
        self.assertEqual(seen, {"length": {0, 1}, "shrink": {False, True}, "join": {-1, 0, 1}})


class Ways(unittest.TestCase):

    def test_all_deeds(self):
        dice = Dice(39)
        for land in SOME + NINE:
            here = played(dice, land, 2)[-1]
            now = here["land"]
            for m in (1, now[3][0], 999999999):
                told = unchanged(self, all_deeds, here, m)
                values = [deed for e in range(len(now[1])) for deed in (("length", e, m), ("join", e), ("shrink", e))]
                self.assertEqual(exact(told), exact(tuple(sorted(deed for deed in values if land_behind(now, deed) is not None))))
        self.assertEqual(all_deeds(new_board(ONE), 7), ())
        self.assertEqual(all_deeds(new_board(ONE), 8), (("length", 0, 8),))

    def test_short_way(self):
        for land in SOME + NINE:
            here = new_board(land)
            told = unchanged(self, short_way, here)
            self.assertEqual(exact(told), exact(tuple(("join", e) for e in best_joins(land))))
            self.assertEqual(len(told), land[0] - 2)
            for deed in told:
                self.assertIs(is_deed(here, deed), True)
                here = done(here, deed)
            self.assertEqual(here["land"][0], 2)
            widths = widths_of(here)
            self.assertTrue(all(other <= one for one, other in zip(widths, widths[1:])))
        self.assertEqual([short_way(new_board(ONE)), short_way(new_board(TRIPLE))], [(), ()])

    def test_thirty_deeds(self):
        dice = Dice(40)
        for land in NINE:
            here = new_board(land)
            for many in range(30):
                # Lengths alone, but for a few deeds in which borders go.
                deed = some_deed(dice, here["land"], 999999999)
                while deed[0] != "length" and many % 6:
                    deed = some_deed(dice, here["land"], 999999999)
                here = done(here, deed)
            self.assertEqual(len(here["log"]), 30)
            self.assertEqual(len(widths_of(here)), 31)
            back = here
            for _ in range(30):
                back = undone(back)
            self.assertEqual([back["land"], back["log"], len(back["back"])], [land, (), 30])
            for _ in range(30):
                back = redone(back)
            self.assertEqual(exact(back), exact(here))
            all_deeds(here, 999999999)
            short_way(here)
