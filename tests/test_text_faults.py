"""[2.1] and [2.2]: BadText and its place, for each kind of fault and each reader."""

import unittest

from foxborders.errors import BadText
from foxborders.texts import (land_text, lot_text, plan_text, read_land, read_lot, read_plan, read_table, table_text)
from tests.lands import FOUR, HUNG, ONE, Dice
from tests.text_oracle import is_in, place_in
from tests.values import exact, odd_values, unchanged

READERS = {"land": read_land, "plan": read_plan, "lot": read_lot, "table": read_table}
WRITERS = {"land": land_text, "plan": plan_text, "lot": lot_text, "table": table_text}
SIGNS = "0123456789 -()\nshirebodtunplagc\t+,.A"

GOOD = {
    "land": [land_text(ONE), land_text(HUNG), "shires 3", "shires 1\nturn -", "shires 0\nborder 3 3 0\nturn 7 7 0\nturn -",
             "shires 999999999\nborder 10 100 123456789\nturn 999999999 0 12", "shires 2\nturn 0\nturn - \nborder 0 1 1"],
    "plan": ["plan 0", "plan 907", "plan (0 1)", "plan ((3 2) 0)", "plan (10 (2 (123456789 0)))",
             "plan ((0 1) ((2 3) 4))", "plan (((0 1) 2) 3)"],
    "lot": ["lot -", "lot 0", "lot 3 1", "lot 1 1 10", "lot 999999999 0 123456789"],
    "table": ["table", "table\nat -", "table\nalong -", "table\nat 0\nat 1 2\nalong 3", "table\nalong 5 0\nalong 999999999",
              table_text((((0,), (), (1, 2)), ((), (3, 4), (2,))))],
}


class Place(unittest.TestCase):

    def place(self, name, text, place):
        with self.assertRaises(BadText) as caught:
            unchanged(self, READERS[name], text)
        self.assertIs(type(caught.exception), BadText)
        self.assertEqual([text, exact(caught.exception.place)], [text, exact(place)])

    def places(self, name, rows):
        for text, place in rows:
            self.assertEqual(place_in(name, text), place)
            self.place(name, text, place)

    def test_no_texts(self):
        for name in READERS:
            for value in odd_values() + [["lot 1"], ("lot 1",), ("table",), {"table": "table"}, list("plan 0")]:
                if not isinstance(value, str):
                    self.place(name, value, 0)

    def test_texts_of_another_kind(self):
        for name in READERS:
            for value in odd_values():
                if isinstance(value, str):
                    self.place(name, value, place_in(name, value))
            for other, texts in GOOD.items():
                for text in texts:
                    if other != name:
                        self.place(name, text, place_in(name, text))

    def test_texts_that_end_early(self):
        for name, texts in GOOD.items():
            for text in texts:
                for many in range(len(text)):
                    if not is_in(name, text[:many]):
                        self.place(name, text[:many], place_in(name, text[:many]))
        self.places("land", [("", 0), ("shire", 5), ("shires ", 7), ("shires 2\n", 9), ("shires 2\nborder 0 1", 19),
                             ("shires 2\nborder 0 1 ", 20), ("shires 2\nturn", 13), ("shires 2\nturn ", 14),
                             ("shires 2\nturn 0 ", 16), ("shires 2\nturn -\n", 16)])
        self.places("plan", [("", 0), ("plan", 4), ("plan ", 5), ("plan (", 6), ("plan (0", 7), ("plan (0 ", 8),
                             ("plan (0 1", 9), ("plan ((0 1) 2", 13), ("plan ((0 1)", 11), ("plan ((((", 9)])
        self.places("lot", [("", 0), ("lot", 3), ("lot ", 4), ("lot 1 ", 6)])
        self.places("table", [("", 0), ("tabl", 4), ("table\n", 6), ("table\na", 7), ("table\nal", 8), ("table\nat", 8),
                              ("table\nat ", 9), ("table\nat 1 ", 11), ("table\nalong 2\na", 15)])

    def test_signs_behind_the_end(self):
        self.places("land", [("shires 2 ", 8), ("shires 2\nturn 0\n\n", 16), ("shires 2\nborder 0 1 1 1", 21),
                             ("shires 2\nborder 0 1 1\n", 22), ("shires 2\nturn - 0", 15), ("shires 2\nturn --", 15)])
        self.places("plan", [("plan 0 1", 6), ("plan 0\n", 6), ("plan (0 1)\n", 10), ("plan (0 1) ", 10),
                             ("plan (0 1 2)", 9), ("plan (0 1)(", 10), ("plan 0)", 6)])
        self.places("lot", [("lot 1\n", 5), ("lot - 1", 5), ("lot --", 5), ("lot 1-", 5), ("lot 1,2", 5)])
        self.places("table", [("table ", 5), ("tables", 5), ("table\nat 1\n", 11), ("table\nat - 1", 10)])

    def test_lines_out_of_sequence(self):
        self.places("land", [("shires 2\nturn 0\nborder 0 1 1", 16), ("shires 2\nturn -\nshires 2", 16),
                             ("border 0 1 1", 0), ("shires 2\nborder 0 1 1\nshires 2", 22), ("shires 2\nbtrder", 10)])
        self.places("table", [("table\nalong 1\nat 2", 15), ("table\nalong -\nat -", 15), ("table\nab", 7),
                              ("at 1", 0), ("table\nat 1\ntable", 11), ("table\nalong 1\nalt 2", 16)])

    def test_needless_noughts(self):
        self.places("land", [("shires 02", 8), ("shires 00", 8), ("shires 2\nborder 0 01 1", 19),
                             ("shires 2\nborder 0 1 01", 21), ("shires 2\nborder 00 1 1", 17), ("shires 2\nturn 00", 15),
                             ("shires 2\nturn 1 07", 17)])
        self.places("plan", [("plan 00", 6), ("plan (01 2)", 7), ("plan (1 02)", 9)])
        self.places("lot", [("lot 00", 5), ("lot 1 01", 7)])
        self.places("table", [("table\nat 01", 10), ("table\nalong 0 00", 15)])

    def test_ten_digits(self):
        self.places("land", [("shires 1234567890", 16), ("shires 2\nborder 1234567890 1 1", 25),
                             ("shires 2\nborder 0 1234567890 1", 27), ("shires 2\nborder 0 1 1000000000", 29),
                             ("shires 2\nturn 1234567890", 23), ("shires 0123456789", 8)])
        self.places("plan", [("plan 1000000000", 14), ("plan (1 1000000000)", 17), ("plan (1000000000 1)", 15)])
        self.places("lot", [("lot 1000000000", 13), ("lot 1 9999999999", 15)])
        self.places("table", [("table\nat 1000000000", 18), ("table\nalong 1 1000000000", 23)])

    def test_signs_in_place_of_digits(self):
        self.places("land", [("shires -", 7), ("shires -2", 7), ("shires +2", 7), ("shires  2", 7), ("shires\t2", 6),
                             ("shires two", 7), ("shires 2.", 8), ("Shires 2", 0), (" shires 2", 0), ("shires 2\n border", 9),
                             ("shires 2\nborder -1 1 1", 16), ("shires 2\nborder 0  1 1", 18), ("shires 2\nborder - 1", 16),
                             ("shires 2\nturn -1", 15), ("shires 2\nturn  0", 14), ("shires 2\nturn 0  1", 16),
                             ("shires 2\nturn 0 -", 16), ("shires 2\nturn\n", 13)])
        self.places("plan", [("plan -", 5), ("plan -1", 5), ("plan (0,1)", 7), ("plan ( 0 1)", 6), ("plan (0  1)", 8),
                             ("plan (0 1 )", 9), ("plan ()", 6), ("plan (0)", 7), ("plan )", 5), ("plan (0 -)", 8),
                             ("plan (0(1 2))", 7), ("plan ((0 1)2)", 11), ("plan  0", 5), ("plan a", 5)])
        self.places("lot", [("lot +1", 4), ("lot -1", 5), ("lot  1", 4), ("lot 1  2", 6), ("lot 1 -", 6), ("lot\t1", 3),
                            ("lots 1", 3)])
        self.places("table", [("table\nat  1", 9), ("table\nat 1 -", 11), ("table\nalong -1", 13), ("table\n\nat 1", 6)])

    def test_signs_that_python_takes_for_digits(self):
        for name, text in (("lot", "lot \u0661"), ("plan", "plan \u00b2"), ("land", "shires \uff12"), ("lot", "lot 1_0")):
            self.place(name, text, place_in(name, text))

    def test_plans_opened_deep(self):
        self.place("plan", "plan " + "(" * 100, 105)
        self.place("plan", "plan " + "(" * 100 + "0" + " 1)" * 99, 403)
        self.place("plan", "plan " + "(" * 100 + "0" + " 1)" * 100 + ")", 406)
        self.place("plan", "plan " + "(0 " * 100 + "0" + ")" * 99, 405)

    def test_long_texts(self):
        self.place("lot", "lot" + " 1" * 3900 + " ", 7804)
        self.place("land", "shires 2" + "\nturn -" * 1100 + "\nborder", 7709)
        self.place("table", "table" + "\nalong -" * 900 + "\nat -", 7207)


class Edited(unittest.TestCase):
    """Good texts with some signs changed, against a second account of the languages."""

    def read(self, name, text):
        reader = READERS[name]
        if is_in(name, text):
            self.assertEqual(WRITERS[name](reader(text)), text)
            return True
        with self.assertRaises(BadText) as caught:
            reader(text)
        self.assertEqual([text, caught.exception.place], [text, place_in(name, text)])
        return False

    def test_one_sign(self):
        for name, texts in GOOD.items():
            for text in texts[:5]:
                for at in range(len(text) + 1):
                    self.read(name, text[:at] + text[at + 1:])
                    self.read(name, text[:at] + text[at:at + 1] + text[at:])
                    for sign in SIGNS[at % 4::4]:
                        self.read(name, text[:at] + sign + text[at + 1:])
                        self.read(name, text[:at] + sign + text[at:])

    def test_several_signs(self):
        dice = Dice(31)
        read = []
        for _ in range(3000):
            name = dice.pick(sorted(GOOD))
            text = dice.pick(GOOD[name])
            for _ in range(1 + dice.below(3)):
                one, other = sorted((dice.below(len(text) + 1), dice.below(len(text) + 1)))
                text = dice.pick((text[:one] + text[other:], text[:other] + text[one:],
                                  text[:one] + dice.pick(SIGNS) + text[one:], text[:one] + dice.pick("019") + text[one + 1:]))
            read.append(self.read(name, text))
        self.assertGreater(read.count(True), 100)
        self.assertGreater(read.count(False), 1000)
