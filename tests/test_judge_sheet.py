"""[2.3] judge_sheet and is_sheet, of any value."""

import itertools
import unittest

from foxborders.sheets import is_sheet, judge_sheet
from tests.lands import Dice
from tests.sheets import BY_HAND, LARGE, SHEETS, changed_sheet, sheet_fault
from tests.values import changes, exact, odd_values, unchanged


class Judged(unittest.TestCase):

    def judged(self, value, fault):
        self.assertEqual(exact(unchanged(self, judge_sheet, value)), exact(fault), value)
        self.assertIs(is_sheet(value), fault is None)

    def test_right_sheets(self):
        for sheet in SHEETS + LARGE:
            self.judged(sheet, None)

    def test_values_of_other_kinds(self):
        for value in odd_values():
            self.judged(value, ("form",))

    def test_form(self):
        for value in ((), ("",), ("", ""), ("a", ""), ("", "a"), ("ab", "a"), ("a", "ab"), ["a"], ("a", None), ("a", ("b",)),
                      ("a", ["b"]), (1,), (True,), "a", ("ab", "B"), ("B", "ab"), ("a", 7), (("a",),), {"a": "b"}, ("ab", "abc")):
            self.judged(value, ("form",))

    def test_sign(self):
        for sign in ("A", "Z", " ", "\t", "\n", "0", "-", "`", "{", "/", ",", "~", "\u00e4"):
            self.judged((sign,), ("sign", 0, 0))
            self.judged(("ab.", "a" + sign + "b", sign * 3), ("sign", 1, 1))
        self.judged((".B", "A."), ("sign", 0, 1))
        self.judged(("..", "..", "B."), ("sign", 2, 0))

    def test_empty(self):
        for value in ((".",), ("..", ".."), ("." * 200,) * 9):
            self.judged(value, ("empty",))

    def test_apart(self):
        self.judged(("a.a",), ("apart", "a"))
        self.judged(("ba", "ab"), ("apart", "a"))
        self.judged(("ab", "ca"), ("apart", "a"))
        self.judged(("aab", "baa"), ("apart", "b"))
        # The sea stands ahead of the letters, the least letter ahead of others.
        self.judged(("aaa", "a.a", "aaa", "b.b"), ("apart", "."))
        self.judged(("bcb", "aca"), ("apart", "a"))
        self.judged(("zaz",), ("apart", "z"))
        # A sea that is in one piece by near steps alone is apart.
        self.judged(("aaa", "a.a", "aa."), ("apart", "."))
        self.judged((".aa", "a.a", "aaa"), ("apart", "."))

    def test_round(self):
        self.judged(("a.b",), ("round", "."))
        self.judged(("aaa", "aba", "aaa"), ("round", "a"))
        self.judged(("bbb", "bab", "bbb"), ("round", "b"))
        self.judged(("aaaa", "abca", "aaaa"), ("round", "a"))
        self.judged(("aaa.", "aba.", "aaa.", "...c"), ("round", "a"))
        self.judged(("aaa..", "aba..", "aaa..", "....c"), ("round", "."))
        # Apart goes ahead of round, also of a letter behind.
        self.judged(("aaa", "aba", "aaa", "b.."), ("apart", "b"))
        # Two holes in one letter, one hole round another one.
        self.judged(("aaaaa", "abaca", "aaaaa"), ("round", "a"))
        self.judged(("aaaaa", "abbba", "abcba", "abbba", "aaaaa"), ("round", "a"))
        # A hole that touches the outside at a point is none.
        self.judged(("aaa", "aba", "aa."), None)
        self.judged(("aaa.", "abac", "aadc"), None)

    def test_kinds_in_their_sequence(self):
        self.judged(("aBa", "a.a", "ab"), ("form",))
        self.judged(("aaB", "a.a", "aaa"), ("sign", 0, 2))
        self.judged(("B..", "...", "..."), ("sign", 0, 0))

    def test_small_sheets_of_all_kinds(self):
        told = {}
        for rows, columns, signs in ((1, 4, ".ab"), (2, 2, ".abc"), (2, 3, ".ab"), (3, 3, ".a"), (3, 2, ".ab"), (4, 3, ".a")):
            for cells in itertools.product(signs, repeat=rows * columns):
                value = tuple("".join(cells[r * columns:(r + 1) * columns]) for r in range(rows))
                fault = sheet_fault(value)
                self.assertEqual(judge_sheet(value), fault, value)
                told[fault] = told.get(fault, 0) + 1
        self.assertGreater(told[None], 300)
        self.assertGreaterEqual(len(told), 6)

    def test_one_sign_changed(self):
        for sheet in SHEETS[:40]:
            for r in range(len(sheet)):
                for c in range(len(sheet[0])):
                    for sign in ".abz":
                        value = changed_sheet(sheet, r, c, sign)
                        self.assertEqual(judge_sheet(value), sheet_fault(value), value)

    def test_one_part_changed(self):
        for sheet in BY_HAND[:8]:
            for value in changes(sheet):
                self.judged(value, sheet_fault(value))

    def test_large_sheets_at_random(self):
        dice = Dice(17)
        told = set()
        for _ in range(60):
            value = dice.pick(LARGE)
            for _ in range(1 + dice.below(3)):
                value = changed_sheet(value, dice.below(len(value)), dice.below(len(value[0])), dice.pick(".abctz"))
            fault = sheet_fault(value)
            self.assertEqual(judge_sheet(value), fault, value)
            told.add(fault and fault[0])
        self.assertGreaterEqual(len(told), 3)

    def test_values_as_great_as_callers_pass(self):
        self.assertIsNone(judge_sheet(("a" * 100 + "b" * 100,) * 1998 + ("c" * 200,)))
        value = ("a" * 200,) * 900 + ("a" * 99 + "b" + "a" * 100,) + ("a" * 200,) * 900
        self.assertEqual(judge_sheet(value), ("round", "a"))
