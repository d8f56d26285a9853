"""[13.1] to [13.5]: lands by numbers, their widths, words and reports with their judge, lands by widths."""

import unittest

from foxborders.land import corners, judge_land, outer_borders, times_land
from foxborders.surveys import (board_land, by_width, judge_report, ladder_land, report, ring_land, wheel_land, widths_told,
                                words)
from foxborders.verdicts import least_width, told_for
from tests.changes_oracle import is_right
from tests.lands import BY_HAND, FOUR, GROWN, ONE, RING, ROW, WOVEN, Dice, board, grown_land, prism, woven_land
from tests.plans_oracle import least_width_of_all, whole
from tests.values import changes, exact, odd_values, unchanged

SOME = tuple(land for land in BY_HAND + GROWN + WOVEN if land[0] <= 9 and len(land[1]) <= 20)
# As large as callers may pass them.
NINE = (grown_land(91, 9, 20, 999999999), woven_land(92, 9, 5), board(3, 3, (2, 1, 3)), grown_land(93, 9, 8), grown_land(94, 2, 20, 9),
        prism(4, (999999999,)), woven_land(95, 8, 2), woven_land(96, 7, 3))


def few(land, most):
    return land[:3] + (tuple(1 + (length - 1) % most for length in land[3]),)


class ByNumbers(unittest.TestCase):

    def test_rings(self):
        self.assertEqual(ring_land(2), (2, ((0, 1), (0, 1)), ((0, 1), (0, 1)), (1, 1)))
        self.assertEqual(ring_land(4), (4, ((0, 1), (1, 2), (2, 3), (0, 3)), ((0, 3), (0, 1), (1, 2), (2, 3)), (1,) * 4))
        for n in range(2, 13):
            n_told, pairs, turns, lengths = ring_land(n)
            self.assertEqual([n_told, lengths], [n, (1,) * n])
            self.assertEqual(pairs, tuple((i, i + 1) for i in range(n - 1)) + ((0, n - 1),))
            self.assertEqual([turns[0], turns[-1]], [(0, n - 1), (n - 2, n - 1)])
            self.assertEqual(turns[1:-1], tuple((i - 1, i) for i in range(1, n - 1)))

    def test_wheels(self):
        for n in range(3, 13):
            told = wheel_land(n)
            self.assertEqual(told[:2], (n + 1, ring_land(n)[1] + tuple((i, n) for i in range(n))))
            to_next = {i: told[1].index((i, i + 1)) if i < n - 1 else n - 1 for i in range(n)}
            self.assertEqual(told[2][:-1], tuple((to_next[i], n + i, to_next[(i - 1) % n]) for i in range(n)))
            self.assertEqual([told[2][-1], told[3]], [tuple(range(n, 2 * n)), (1,) * (2 * n)])

    def test_ladders(self):
        for n in range(3, 11):
            # Three sets of borders, and each turn just as the tests' own lands of two rings have them.
            self.assertEqual(exact(ladder_land(n)), exact(prism(n)))

    def test_boards(self):
        for m in range(1, 25):
            for n in range(1, 25):
                if 2 <= m * n <= 24:
                    self.assertEqual(exact(unchanged(self, board_land, m, n)), exact(board(n, m)))
        self.assertEqual(board_land(1, 3), (3, ((0, 1), (1, 2)), ((0,), (1, 0), (1,)), (1, 1)))
        self.assertEqual(board_land(3, 1), (3, ((0, 1), (1, 2)), ((0,), (1, 0), (1,)), (1, 1)))
        self.assertEqual(board_land(1, 2), (2, ((0, 1),), ((0,), (0,)), (1,)))
        self.assertEqual(board_land(2, 1), (2, ((0, 1),), ((0,), (0,)), (1,)))

    def test_right_lands(self):
        lands = [ring_land(n) for n in range(2, 13)] + [wheel_land(n) for n in range(3, 13)] + [ladder_land(n) for n in range(3, 11)]
        lands += [board_land(m, n) for m, n in ((1, 2), (24, 1), (1, 24), (2, 12), (4, 6), (5, 4), (3, 3))]
        for land in lands:
            self.assertIsNone(judge_land(land))
            self.assertTrue(is_right(land))
            self.assertEqual(set(land[3]), {1})


class Widths(unittest.TestCase):

    def test_widths(self):
        for n in range(2, 13):
            self.assertEqual(least_width(ring_land(n)), 2)
            self.assertEqual(least_width(board_land(1, n)), 1 if n == 2 else 2)
            self.assertEqual(least_width(board_land(2, n)), 2 if n == 2 else 3)
            self.assertEqual(least_width(board_land(n, 2)), 2 if n == 2 else 3)
        for n in range(3, 13):
            self.assertEqual(least_width(wheel_land(n)), max(4, n))
        for n in range(3, 11):
            self.assertEqual(least_width(ladder_land(n)), 4)
        for n in range(3, 9):
            self.assertEqual(least_width(board_land(3, n)), 4)
        for land in (ring_land(5), wheel_land(3), wheel_land(5), ladder_land(3), board_land(2, 3), board_land(1, 6)):
            self.assertEqual(least_width(land), least_width_of_all(land))

    def test_told(self):
        widths = {"ring": lambda n: 2, "wheel": lambda n: max(4, n), "ladder": lambda n: 4, "row": lambda n: 1 if n == 2 else 2}
        for kind, least in (("ring", 2), ("wheel", 3), ("ladder", 3), ("row", 2)):
            for most in range(-1, 13):
                expected = tuple((n, widths[kind](n)) for n in range(least, most + 1))
                self.assertEqual(exact(widths_told(kind, most)), exact(expected))
            self.assertEqual([widths_told(kind, least - 1), widths_told(kind, 0), len(widths_told(kind, least))], [(), (), 1])


class Words(unittest.TestCase):

    def test_words(self):
        found = set()
        for land in SOME + NINE:
            land = few(land, 1 + len(found) % 12)
            told = unchanged(self, words, land, 40)
            self.assertEqual(exact(told), exact(tuple(told_for(land, k)[0] for k in range(1, 41))))
            longest, least = max(outer_borders(land)), least_width(land)
            self.assertEqual(told, (("shire",) * longest + ("table",) * (least - longest) + ("plan",) * 40)[:40])
            found |= {len(set(told))}
        self.assertEqual(found, {1, 2, 3})

    def test_few_and_many(self):
        for land in (ONE, FOUR, WOVEN[3], ladder_land(3), wheel_land(4)) + NINE:
            land = few(land, 100)
            for most in (0, 1, 2, 5, 17, 60):
                told = words(land, most)
                self.assertEqual([len(told), told], [most, words(land, 60)[:most]])
        self.assertEqual([words(ONE, 0), words(ONE, 7), words(ONE, 9)], [(), ("shire",) * 7, ("shire",) * 7 + ("plan",) * 2])
        self.assertEqual(words(NINE[0], 60), ("shire",) * 60)

    def test_lengths_times_as_great(self):
        for land in SOME[::3] + (ladder_land(3), wheel_land(4), board_land(3, 3)):
            land = few(land, 5)
            for m in (2, 3):
                more = times_land(land, m)
                self.assertEqual(least_width(more), m * least_width(land))
                self.assertEqual(words(more, m * 20), tuple(word for word in words(land, 20) for _ in range(m)))


class Reports(unittest.TestCase):

    def test_reports(self):
        found = []
        for land in SOME + NINE + (ring_land(9), wheel_land(8), ladder_land(4), board_land(3, 3)):
            told = unchanged(self, report, land)
            longest, least = max(outer_borders(land)), least_width(land)
            word = "shire" if longest == least else "table"
            self.assertEqual(exact(told), exact((land[0], len(land[1]), len(corners(land)), longest, least, word)))
            self.assertEqual(told[5], told_for(land, least)[0])
            self.assertIsNone(unchanged(self, judge_report, land, told))
            found.append(word)
        self.assertGreater(min(found.count("shire"), found.count("table")), 5)
        self.assertEqual([report(ONE), report(RING), report(ROW)],
                         [(2, 1, 1, 7, 7, "shire"), (4, 4, 2, 2, 2, "shire"), (4, 3, 1, 7, 7, "shire")])

    def fault(self, land, value):
        if type(value) is not tuple or len(value) != 6 or not all(map(whole, value[:5])) or type(value[5]) is not str:
            return ("form",)
        good = report(land)
        wrong = [i for i in range(6) if value[i] != good[i]]
        return ("member", wrong[0]) if wrong else None

    def judged(self, land, value):
        fault = self.fault(land, value)
        self.assertEqual(exact(unchanged(self, judge_report, land, value)), exact(fault), value)
        return fault

    def test_any_value(self):
        good = report(FOUR)
        for value in odd_values():
            self.assertEqual(judge_report(FOUR, value), ("form",))
            for at in range(6):
                self.judged(FOUR, good[:at] + (value,) + good[at + 1:])

    def test_form(self):
        good = report(ONE)
        for value in (list(good), good[:5], good + ("shire",), good[:5] + (None,), good[:5] + (7,), good[:5] + (["shire"],),
                      (True,) + good[1:], (2, True) + good[2:], (2, 1, True) + good[3:], ("2",) + good[1:], (2, None) + good[2:],
                      ((2,),) + good[1:], "abcdef", {k: 1 for k in range(6)}, (), None):
            self.assertEqual(judge_report(ONE, value), ("form",), value)

    def test_members(self):
        for land in (ONE, FOUR, ladder_land(3), NINE[0]):
            good = report(land)
            for i in range(5):
                for other in (0, -1, good[i] + 1, -good[i], 10 ** 59):
                    self.assertEqual(self.judged(land, good[:i] + (other,) + good[i + 1:]), ("member", i))
                    # The least place alone is told.
                    self.assertEqual(judge_report(land, good[:i] + (other,) * (5 - i) + ("",)), ("member", i))
            for word in ("", "plan", "Shire", "table " if good[5] == "table" else "table", "x" * 200):
                self.assertEqual(self.judged(land, good[:5] + (word,)), ("member", 5))

    def test_one_part_changed(self):
        for land in (ONE, RING, ladder_land(3)):
            for value in changes(report(land)):
                self.judged(land, value)


class ByWidth(unittest.TestCase):

    def test_by_width(self):
        dice = Dice(61)
        for _ in range(40):
            lands = [dice.pick(SOME + NINE) for _ in range(dice.below(13))]
            rows = sorted((least_width(land), max(outer_borders(land)), land[0], i) for i, land in enumerate(lands))
            told = unchanged(self, by_width, lands)
            self.assertEqual(exact(told), exact(tuple(i for _, _, _, i in rows)))
            self.assertEqual(by_width(tuple(lands)), told)

    def test_each_of_the_four(self):
        # The least widths are alike: the greatest outer borders of single shires tell.
        self.assertEqual(by_width([wheel_land(4), ladder_land(3), ladder_land(4)]), (1, 2, 0))
        # Both are alike: the numbers of shires tell, then the places.
        self.assertEqual(by_width([ladder_land(5), ladder_land(3), ladder_land(5), ladder_land(3)]), (1, 3, 0, 2))
        self.assertEqual(by_width([ring_land(4), ring_land(2), board_land(1, 3), board_land(1, 2)]), (3, 1, 2, 0))
        self.assertEqual([by_width([]), by_width([ONE]), by_width([ONE, ONE, ONE])], [(), (0,), (0, 1, 2)])

    def test_as_many_as_may_be(self):
        self.assertEqual(sorted(by_width(list(NINE) + [ONE] * 4)), list(range(12)))
