"""[2.1] and [2.2]: lands, plans, lots and tables written as texts, and read again."""

import unittest

from foxborders.land import is_land, judge_land
from foxborders.texts import (land_text, lot_text, plan_text, read_land, read_lot, read_plan, read_table, table_text)
from tests.lands import FOUR, HUNG, LANDS, ONE, STAR, TRIPLE, Dice
from tests.values import exact, nested, unchanged


class Both(unittest.TestCase):

    def both(self, write, read, value, text):
        self.assertEqual(unchanged(self, write, value), text)
        self.assertEqual(exact(read(text)), exact(value))


class Lands(Both):

    def test_written(self):
        self.both(land_text, read_land, ONE, "shires 2\nborder 0 1 7\nturn 0\nturn 0")
        self.both(land_text, read_land, HUNG,
                  "shires 3\nborder 0 1 3\nborder 0 1 4\nborder 0 2 5\nturn 0 2 1\nturn 1 0\nturn 2")
        self.both(land_text, read_land, TRIPLE,
                  "shires 2\nborder 0 1 5\nborder 0 1 1\nborder 0 1 999999999\nturn 0 1 2\nturn 2 1 0")
        self.both(land_text, read_land, STAR,
                  "shires 4\nborder 0 3 1\nborder 1 3 4\nborder 2 3 2\nturn 0\nturn 1\nturn 2\nturn 0 1 2")

    def test_all_lands_come_back(self):
        for land in LANDS:
            text = land_text(land)
            self.assertEqual(exact(read_land(text)), exact(land))
            self.assertEqual(land_text(read_land(text)), text)
            lines = text.split("\n")
            self.assertEqual(len(lines), 1 + len(land[1]) + len(land[2]))
            self.assertEqual([line.split(" ")[0] for line in lines],
                             ["shires"] + ["border"] * len(land[1]) + ["turn"] * len(land[2]))

    def test_lines_missing_or_too_many(self):
        self.both(land_text, read_land, (3, (), (), ()), "shires 3")
        self.both(land_text, read_land, (0, (), (), ()), "shires 0")
        self.both(land_text, read_land, (1, (), ((),), ()), "shires 1\nturn -")
        self.both(land_text, read_land, (2, ((0, 1),), (), (1,)), "shires 2\nborder 0 1 1")
        self.both(land_text, read_land, (2, (), ((0,), (), (5, 5)), ()), "shires 2\nturn 0\nturn -\nturn 5 5")
        self.both(land_text, read_land, (9, ((0, 1),), ((0,),), (1,)), "shires 9\nborder 0 1 1\nturn 0")
        lines = land_text(FOUR).split("\n")
        for k in range(1, len(lines)):
            for rows in (lines[:k] + lines[k + 1:], lines[:k] + lines[k:k + 1] + lines[k:]):
                land = read_land("\n".join(rows))
                self.assertIs(is_land(land), False)
                self.assertEqual(land_text(land), "\n".join(rows))

    def test_read_as_it_is_written(self):
        self.both(land_text, read_land, (0, ((3, 3), (2, 0)), ((7, 7, 0),), (0, 999999999)),
                  "shires 0\nborder 3 3 0\nborder 2 0 999999999\nturn 7 7 0")
        self.both(land_text, read_land, (999999999, ((999999999, 0),), ((999999999,),), (100000000,)),
                  "shires 999999999\nborder 999999999 0 100000000\nturn 999999999")
        self.assertEqual(judge_land(read_land("shires 2\nborder 1 0 1\nturn 0\nturn 0")), ("border", 0))

    def test_long(self):
        text = "shires 7" + "\nborder 1 0 3" * 400 + "\nturn -" * 300
        self.both(land_text, read_land, (7, ((1, 0),) * 400, ((),) * 300, (3,) * 400), text)


class Plans(Both):

    def test_written(self):
        for plan, text in ((0, "0"), (7, "7"), (999999999, "999999999"), ((0, 1), "(0 1)"), ((1, 0), "(1 0)"),
                           (((3, 2), 0), "((3 2) 0)"), ((0, (3, 2)), "(0 (3 2))"), ((0, 0), "(0 0)"),
                           (((10, 2), (30, (4, 5))), "((10 2) (30 (4 5)))"),
                           (((0, 1), (2, 3)), "((0 1) (2 3))"), ((5, ((5, 5), 100)), "(5 ((5 5) 100))")):
            self.both(plan_text, read_plan, plan, f"plan {text}")

    def test_deep(self):
        for depth in (100, 150):
            left, right = nested(depth, lambda plan: (plan, 1), 0), nested(depth, lambda plan: (12, plan), 0)
            self.both(plan_text, read_plan, left, "plan " + "(" * depth + "0" + " 1)" * depth)
            self.both(plan_text, read_plan, right, "plan " + "(12 " * depth + "0" + ")" * depth)

    def test_many_come_back(self):
        dice = Dice(21)
        for _ in range(300):
            parts = [dice.below((10, 10 ** 9)[dice.below(2)]) for _ in range(1 + dice.below(24))]
            while len(parts) > 1:
                one, other = parts.pop(dice.below(len(parts))), parts.pop(dice.below(len(parts)))
                parts.append((one, other))
            text = plan_text(parts[0])
            self.assertEqual(exact(read_plan(text)), exact(parts[0]))
            self.assertEqual(text, "plan " + exact(parts[0]).replace(",", ""))

    def test_long(self):
        text = "plan " + "(" * 99 + "1" + " (2 3))" * 99
        self.assertEqual(plan_text(read_plan(text)), text)
        text = "(4 5)"
        for _ in range(9):
            text = f"({text} {text})"
        self.assertEqual(plan_text(read_plan(f"plan {text}")), f"plan {text}")


class Lots(Both):

    def test_written(self):
        for lot, text in (((), "-"), ((0,), "0"), ((3, 1), "3 1"), ((1, 1), "1 1"), ((1, 2, 30), "1 2 30"),
                          ((999999999, 0, 10), "999999999 0 10")):
            self.both(lot_text, read_lot, lot, f"lot {text}")

    def test_long(self):
        lot = tuple(range(1000, 2590))
        text = lot_text(lot)
        self.assertEqual(read_lot(text), lot)
        self.assertGreater(len(text), 7900)


class Tables(Both):

    def test_written(self):
        for table, lines in ((((), ()), []), ((((),), ()), ["at -"]), (((), ((),)), ["along -"]),
                             ((((0,), (1, 2)), ((3,),)), ["at 0", "at 1 2", "along 3"]),
                             ((((5, 5, 0),), ()), ["at 5 5 0"]), (((), ((2, 1), (999999999,))), ["along 2 1", "along 999999999"]),
                             ((((), (0,), ()), ((1,), (), (0, 10))), ["at -", "at 0", "at -", "along 1", "along -", "along 0 10"])):
            self.both(table_text, read_table, table, "\n".join(["table"] + lines))

    def test_many_come_back(self):
        dice = Dice(22)
        for _ in range(200):
            table = tuple(tuple(tuple(dice.below(30) for _ in range(dice.below(5))) for _ in range(dice.below(6)))
                          for _ in range(2))
            text = table_text(table)
            self.assertEqual(exact(read_table(text)), exact(table))
            self.assertEqual(table_text(read_table(text)), text)
            self.assertEqual([line.split(" ")[0] for line in text.split("\n")],
                             ["table"] + ["at"] * len(table[0]) + ["along"] * len(table[1]))

    def test_long(self):
        text = "table" + "\nat 0 1 2" * 400 + "\nalong -" * 400
        self.assertEqual(read_table(text), (((0, 1, 2),) * 400, ((),) * 400))
