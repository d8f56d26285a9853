"""[11.1] to [11.6] and [11.8]: profiles, rooms and slacks, filled and thinned lands, what binds, rooms of plans."""

import unittest

from foxborders.binding import (binding, filled, gap, holding, is_bare, is_full, long_shires, longest, plan_rooms, profile,
                                room_of, rooms, slack_of, slacks, thinned, tight_lots)
from foxborders.changes import shrunk
from foxborders.counting import plan_at, plans_below
from foxborders.land import judge_land, outer_border, outer_borders, times_land, with_length
from foxborders.plans import lots_of, width
from foxborders.verdicts import good_joins, is_below, least_width
from tests.changes_oracle import shrunk_land
from tests.lands import (BY_HAND, FOUR, GROWN, HUNG, ONE, RING, ROW, STAR, TRIPLE, WOVEN, Dice, board, grown_land, prism,
                         woven_land)
from tests.plans_oracle import all_plans, cut, least_width_of_all, lots, plan_width, random_plan
from tests.values import exact, unchanged

CHAIN = (4, ((0, 1), (1, 2), (2, 3)), ((0,), (0, 1), (1, 2), (2,)), (5, 5, 3))
EACH = (4, ((0, 1), (0, 2), (0, 3), (1, 2), (1, 3), (2, 3)), ((0, 1, 2), (0, 4, 3), (1, 3, 5), (2, 5, 4)), (1,) * 6)


def few(land, most):
    """The land with lengths of at most so many."""
    return land[:3] + (tuple(1 + (length - 1) % most for length in land[3]),)


# Lands that can be looked at length by length, over all their plans.
SMALL = tuple(few(land, 1 + at % 6) for at, land in enumerate(BY_HAND + GROWN[:45] + WOVEN[:24])
              if land[0] <= 5 and len(land[1]) <= 10) + tuple(
                  grown_land(400 + seed, 3 + seed % 3, 4 + seed % 5, 12) for seed in range(15))
SOME = tuple(few(land, 1000) for land in BY_HAND + GROWN + WOVEN if land[0] <= 12 and len(land[1]) <= 20)
# As large as callers may pass them.
TWELVE = (board(3, 4, (1000, 1, 999, 500)), prism(6), prism(6, (1000, 1, 500)), grown_land(71, 12, 20, 1000),
          grown_land(72, 12, 11, 1000), woven_land(73, 9, 1000), grown_land(74, 2, 20, 1000), board(4, 3), prism(5, (7, 3, 5, 1)))


def longer(land, e, more):
    return land[:3] + (land[3][:e] + (land[3][e] + more,) + land[3][e + 1:],)


def room_by_plans(land, e):
    """By growing length by length, over all plans."""
    least = least_width_of_all(land)
    room = 0
    while least_width_of_all(longer(land, e, room + 1)) == least:
        room += 1
    return room


def slack_by_plans(land, e):
    least = least_width_of_all(land)
    slack = 0
    while slack < land[3][e]:
        less = longer(land, e, -slack - 1) if slack + 1 < land[3][e] else shrunk_land(land, e)
        if less is None or least_width_of_all(less) < least:
            break
        slack += 1
    return slack


def greater_shire(land, e):
    return max(outer_border(land, (s,)) for s in land[1][e])


class Profiles(unittest.TestCase):

    def test_profiles(self):
        for land in SMALL[:30] + TWELVE:
            for e in range(0, len(land[1]), 3):
                told = unchanged(self, profile, land, e, 12)
                lands = [with_length(land, e, m) for m in range(1, 13)]
                if land in SMALL:
                    self.assertEqual(exact(told), exact(tuple(least_width_of_all(long) for long in lands)))
                self.assertEqual(told, tuple(least_width(long) for long in lands))
                self.assertTrue(all(other - one in (0, 1) for one, other in zip(told, told[1:])))
                for long, least in zip(lands, told):
                    self.assertGreaterEqual(least, greater_shire(long, e))
                self.assertEqual(profile(land, e, 1), told[:1])
                # Whatever length the border has.
                self.assertEqual(profile(with_length(land, e, 77), e, 5), told[:5])

    def test_stays_and_rises_again(self):
        shapes = set()
        for land in SMALL:
            for e in range(len(land[1])):
                told = profile(land, e, 12)
                rises = "".join("+" if other > one else "=" for one, other in zip(told, told[1:]))
                shapes.add("=+=" in rises)
        self.assertEqual(shapes, {True, False})

    def test_longest(self):
        for land in SMALL[::2]:
            least = least_width_of_all(land)
            for e in range(len(land[1])):
                told = [least_width_of_all(with_length(land, e, m)) for m in range(1, least + 6)]
                for k in (1, 2, least - 1, least, least + 1, least + 2, least + 4):
                    fitting = [m for m, width_told in enumerate(told, 1) if width_told < k]
                    expected = fitting[-1] if fitting else None
                    if k > 0:
                        self.assertEqual(exact(unchanged(self, longest, land, e, k)), exact(expected), (land, e, k))

    def test_longest_of_great_numbers(self):
        for land in TWELVE + SOME[::4]:
            least = least_width(land)
            for e in range(0, len(land[1]), 5):
                for k in (1, least, least + 1, 999999999):
                    told = longest(land, e, k)
                    self.assertEqual(longest(with_length(land, e, 3), e, k), told)
                    if told is None:
                        self.assertGreaterEqual(least_width(with_length(land, e, 1)), k)
                    else:
                        self.assertLess(least_width(with_length(land, e, told)), k)
                        self.assertGreaterEqual(least_width(with_length(land, e, told + 1)), k)
        self.assertEqual([longest(ONE, 0, 1), longest(ONE, 0, 2), longest(ONE, 0, 999999999)], [None, 1, 999999998])


class Rooms(unittest.TestCase):

    def test_by_all_plans(self):
        found = []
        for land in SMALL:
            expected = tuple(room_by_plans(land, e) for e in range(len(land[1])))
            told = unchanged(self, rooms, land)
            self.assertEqual(exact(told), exact(expected))
            self.assertEqual(tuple(room_of(land, e) for e in range(len(land[1]))), expected)
            self.assertEqual(exact(unchanged(self, binding, land)), exact(tuple(e for e, room in enumerate(expected) if room == 0)))
            self.assertIs(unchanged(self, is_full, land), not any(expected))
            found.extend(expected)
        self.assertGreater(len([room for room in found if room > 1]), 15)
        self.assertGreater(found.count(0), 20)

    def test_what_holds(self):
        for land in SOME + TWELVE:
            least = least_width(land)
            told = rooms(land)
            good = good_joins(land)
            for e, room in enumerate(told):
                top = least - greater_shire(land, e)
                self.assertTrue(0 <= room <= top)
                if e in good:
                    self.assertEqual(room, top)
                self.assertIs(is_below(with_length(land, e, land[3][e] + room), least + 1), True)
                self.assertIs(is_below(with_length(land, e, land[3][e] + room + 1), least + 1), False)
            for s in long_shires(land):
                self.assertTrue(set(land[2][s]) <= set(binding(land)))

    def test_less_than_the_shires_leave(self):
        # Some borders have less room than their shires alone would leave.
        less = 0
        for land in SMALL + TWELVE:
            least = least_width(land)
            less += sum(room < least - greater_shire(land, e) for e, room in enumerate(rooms(land)))
        self.assertGreater(less, 0)

    def test_by_hand(self):
        self.assertEqual([rooms(ONE), binding(ONE), is_full(ONE)], [(0,), (0,), True])
        self.assertEqual([rooms(CHAIN), room_of(CHAIN, 2), binding(CHAIN)], [(0, 0, 2), 2, (0, 1)])
        self.assertEqual([rooms(RING), rooms(STAR), rooms(TRIPLE)], [(0, 0, 0, 0), (0, 0, 0), (0, 0, 0)])


class Slacks(unittest.TestCase):

    def test_by_all_plans(self):
        found = []
        for land in SMALL:
            expected = tuple(slack_by_plans(land, e) for e in range(len(land[1])))
            told = unchanged(self, slacks, land)
            self.assertEqual(exact(told), exact(expected))
            self.assertEqual(tuple(slack_of(land, e) for e in range(len(land[1]))), expected)
            self.assertEqual(exact(unchanged(self, holding, land)), exact(tuple(e for e, slack in enumerate(expected) if slack == 0)))
            self.assertIs(unchanged(self, is_bare, land), not any(expected))
            for e, slack in enumerate(expected):
                kind = "all" if slack == land[3][e] else "some" if slack else "none"
                found.append((kind, shrunk(land, e) is None, land[3][e] == 1))
        # Whole lengths only where the land stays in one piece; of those that can't go, also such of the length 1.
        for case in (("all", False, True), ("all", False, False), ("some", True, False), ("some", False, False), ("none", True, True),
                     ("none", True, False), ("none", False, True), ("none", False, False)):
            self.assertIn(case, found)
        self.assertNotIn(("all", True, True), found)
        self.assertNotIn(("all", True, False), found)

    def test_what_holds(self):
        for land in SOME + TWELVE:
            least = least_width(land)
            for e, slack in enumerate(slacks(land)):
                length = land[3][e]
                self.assertTrue(0 <= slack <= length)
                left = shrunk(land, e) if slack == length else with_length(land, e, length - slack)
                self.assertEqual(least_width(left), least)
                if slack == length - 1:
                    left = shrunk(land, e)
                    self.assertTrue(left is None or least_width(left) < least)
                elif slack < length:
                    self.assertEqual(least_width(with_length(land, e, length - slack - 1)), least - 1)

    def test_a_step_of_one(self):
        for land in SMALL:
            least = least_width(land)
            for e, length in enumerate(land[3]):
                less = shrunk(land, e) if length == 1 else with_length(land, e, length - 1)
                if less is not None:
                    self.assertIn(least - least_width(less), (0, 1))

    def test_by_hand(self):
        self.assertEqual([slacks(ONE), holding(ONE), is_bare(ONE)], [(0,), (0,), True])
        self.assertEqual([slacks(CHAIN), slack_of(CHAIN, 2), holding(CHAIN)], [(0, 0, 2), 2, (0, 1)])
        # In a ring each border can go alone, but nothing of two shires' borders.
        self.assertEqual([slacks(RING), slacks(TRIPLE), slacks(HUNG)[2]], [(1, 1, 1, 1), (0, 0, 0), 0])


class FilledAndThinned(unittest.TestCase):

    def check(self, land, order):
        least = least_width(land)
        full = unchanged(self, filled, land, order)
        self.assertEqual(exact(filled(land, tuple(order))), exact(full))
        self.assertEqual([full[:3], least_width(full), is_full(full)], [land[:3], least, True])
        lengths, late = unchanged(self, thinned, land, order)
        self.assertEqual(exact(thinned(land, tuple(order))), exact((lengths, late)))
        self.assertIsNone(judge_land(late))
        self.assertEqual([least_width(late), is_bare(late)], [least, True])
        self.assertEqual(late[3], tuple(length for length in lengths if length))
        self.assertTrue(all(low <= length <= high for low, length, high in zip(lengths, land[3], full[3])))
        return full, lengths, late

    def step_by_step(self, land, order):
        """Both, border by border, by what room_of and slack_of tell of the land as it is by then."""
        full = land
        for e in order:
            full = longer(full, e, room_of(full, e))
        late, names, lengths = land, list(range(len(land[1]))), list(land[3])
        for e in order:
            at = names.index(e)
            lengths[e] -= slack_of(late, at)
            if lengths[e] == 0:
                late = shrunk_land(late, at)
                names.remove(e)
            else:
                late = late[:3] + (late[3][:at] + (lengths[e],) + late[3][at + 1:],)
        return full, tuple(lengths), late

    def test_step_by_step(self):
        dice = Dice(55)
        gone = 0
        for land in SMALL + SOME[::3]:
            for order in (list(range(len(land[1]))), list(range(len(land[1])))[::-1], dice.shuffled(range(len(land[1])))):
                told = self.check(land, order)
                self.assertEqual(exact(told), exact(self.step_by_step(land, order)))
                gone += told[1].count(0)
        self.assertGreater(gone, 100)

    def test_lands_between(self):
        dice = Dice(56)
        for land in SMALL[::2] + TWELVE[:4]:
            order = dice.shuffled(range(len(land[1])))
            full, lengths, _ = self.check(land, order)
            for _ in range(4):
                between = tuple(low + dice.below(high - low + 1) for low, high in zip(lengths, full[3]))
                some = land
                # From the last border on, so that the others keep their numbers.
                for e in range(len(between) - 1, -1, -1):
                    some = with_length(some, e, between[e]) if between[e] else shrunk(some, e)
                self.assertEqual(least_width(some), least_width(land))

    def test_orders(self):
        three = (3, ((0, 1), (0, 2), (1, 2)), ((0, 1), (0, 2), (1, 2)), (1, 1, 1))
        self.assertEqual([thinned(three, order)[0] for order in ([0, 1, 2], [1, 2, 0], [2, 0, 1])], [(0, 1, 1), (1, 0, 1), (1, 1, 0)])
        self.assertEqual([filled(EACH, order)[3] for order in ([0, 1, 2, 3, 4, 5], [4, 3, 2, 1, 0, 5], [1, 0, 2, 3, 4, 5])],
                         [(2, 1, 1, 1, 1, 2), (1, 2, 1, 1, 2, 1), (1, 2, 1, 1, 2, 1)])
        self.assertEqual([filled(ONE, [0]), thinned(ONE, [0])], [ONE, ((7,), ONE)])


class WhatBinds(unittest.TestCase):

    def test_long_shires_and_gaps(self):
        gaps = []
        for land in SMALL + SOME + TWELVE:
            least, outer = least_width(land), outer_borders(land)
            self.assertEqual(exact(unchanged(self, gap, land)), exact(least - max(outer)))
            told = tuple(s for s, length in enumerate(outer) if length == least)
            self.assertEqual(exact(unchanged(self, long_shires, land)), exact(told))
            self.assertEqual(gap(land) == 0, told != ())
            gaps.append(gap(land))
        self.assertGreater(gaps.count(0), 20)
        self.assertGreater(len(gaps) - gaps.count(0), 10)

    def test_times_as_great(self):
        for land in SMALL[::3] + TWELVE[:4]:
            for m in (2, 1000):
                more = times_land(land, m)
                self.assertEqual(gap(more), m * gap(land))
                self.assertEqual(rooms(more), tuple(m * room for room in rooms(land)))
                for e, (one, other) in enumerate(zip(slacks(land), slacks(more))):
                    if shrunk(land, e) is not None:
                        self.assertEqual(other, m * one)

    def test_tight_lots_and_rooms_of_plans(self):
        dice = Dice(57)
        for land in SOME + TWELVE:
            for _ in range(3):
                plan = random_plan(dice, range(land[0]))
                told = unchanged(self, tight_lots, land, plan)
                greatest = plan_width(land, plan)
                self.assertEqual(exact(told), exact(tuple(lot for lot in lots(plan) if cut(land, lot) == greatest)))
                expected = tuple(min(greatest - cut(land, lot) for lot in lots(plan) if (a in lot) != (b in lot)) for a, b in land[1])
                self.assertEqual(exact(unchanged(self, plan_rooms, land, plan)), exact(expected))
        self.assertEqual([tight_lots(ONE, (1, 0)), plan_rooms(ONE, (1, 0))], [((0,), (1,)), (0,)])

    def test_rooms_by_all_plans_of_the_least_width(self):
        for land in SMALL:
            least = least_width(land)
            best = [plan_rooms(land, plan) for plan in all_plans(land[0]) if plan_width(land, plan) == least]
            self.assertEqual(rooms(land), tuple(max(row[e] for row in best) for e in range(len(land[1]))))

    def test_rooms_by_counted_plans(self):
        for land in (woven_land(73, 7, 5), board(2, 4, (3, 1, 2)), prism(4, (2, 1))):
            least = least_width(land)
            many = plans_below(land, least + 1)
            told = rooms(land)
            for i in range(0, many, 1 + many // 40):
                plan = plan_at(land, least + 1, i)
                self.assertEqual(width(land, plan), least)
                self.assertTrue(all(one <= other for one, other in zip(plan_rooms(land, plan), told)))
                self.assertTrue(all(lot in lots_of(plan) for lot in tight_lots(land, plan)))
