"""[14.4]: desks, what they answer to each line, and that all stays where the answer is refused or what."""

import unittest

from foxborders.chase import bell_move, bell_moves, fox_move
from foxborders.desk import Desk
from foxborders.errors import NothingDone
from foxborders.house import House
from foxborders.land import corner_count
from foxborders.scripts import deed_text, log_text
from foxborders.tables import greatest_table
from foxborders.texts import land_text, lot_text, plan_text, table_text
from foxborders.verdicts import good_joins, least_width, verdict
from tests.boards_oracle import land_behind, some_deed
from tests.lands import FOUR, HUNG, ONE, ROW, TRIPLE, Dice
from tests.test_house import NINE, SOME
from tests.values import exact, odd_values, unchanged

WORDS = ("undo", "redo", "settle", "land", "width", "plan", "paper", "joins", "log")
# What is said to no desk with a land of at most five corners and five shires.
NO_LINES = ("", " ", "what", "refused", "Land", "LAND", "land ", " land", "land\n", "land 0", "width 1", "undo 1", "undo\n", "undo undo",
            "redo ", "settle 2", "log -", "nothing", "none", "lands", "la", "table", "table ", "table 0", "table -1", "table -", "table 01",
            "table 00", "table +1", "table  5", "table 5 ", "table 5 5", "table\n5", "table five", "table 1000000000", "table 5.",
            "tables 5", "Table 5", "table1", "bell", "bell 4", "bell 4 0", "bell 4 0 0 0", "bell 0 0 0", "bell 4 9 0", "bell 4 0 9",
            "bell 4 0 -1", "bell 4 -1 0", "bell 4 00 0", "bell 4  0 0", "bell 4 0 0 ", "bell 4,0,0", "bell 1000000000 0 0", "bell -",
            "bell 4 1000000000 0", "bell -4 0 0", "fox", "fox 4 0 0", "fox 4 0 0 0 0", "fox 0 0 0 0", "fox 4 9 0 0", "fox 4 0 9 0",
            "fox 4 0 0 9", "fox 4 0 0 -1", "fox 4 0 0 01", "fox 4  0 0 0", "fox 4 0 0 0\n", "fox 1000000000 0 0 0", "fox -", "foxes 4 0 0 0",
            "join", "join 9", "join 99", "join -1", "join 00", "join 0 0", "join 0\njoin 0", "join 0 ", "shrink", "shrink 9", "shrink 0 1",
            "length 0", "length 0 0", "length 9 1", "length 0 01", "length 0 -1", "length 0 1 1", "length 0  9", "Join 0", "join 1" + "0" * 60,
            "length 0 1" + "0" * 60, "do join 0", "\n", "\t", "join\t0", "paper\npaper", "0", "('join', 0)")


class Said(unittest.TestCase):

    def check_what(self, desk, value):
        before = exact(desk.house().board())
        self.assertEqual(unchanged(self, desk.say, value), "what")
        self.assertEqual(exact(desk.house().board()), before)

    def test_other_values(self):
        for land in (FOUR, ONE, ROW):
            desk = Desk(land)
            desk.say("length 0 77")
            desk.say("undo")
            for value in NO_LINES + tuple(odd_values()) + (["land"], ("land",), {"land": 1}, ["join", 0], ("join", 0), ("undo",), b"land"):
                self.check_what(desk, value)
            # What was taken back is still there.
            self.assertEqual(desk.say("redo"), "1")

    def test_words(self):
        for seed, land in enumerate(SOME[::2] + NINE):
            dice = Dice(seed)
            desk, house = Desk(land), House(land)
            for _ in range(5):
                deed = some_deed(dice, house.land())
                self.assertEqual(desk.say(deed_text(deed)), str(house.do(deed)))
                now = house.land()
                told = verdict(now)
                paper = f"shire {told[2][1]}" if told[2][0] == "shire" else table_text(told[2][1])
                self.assertEqual(exact([desk.say(word) for word in ("land", "width", "plan", "paper", "joins", "log")]),
                                 exact([land_text(now), str(told[0]), plan_text(desk.house().plan()), paper, lot_text(good_joins(now)),
                                        log_text(house.deeds())]))

    def test_undo_and_redo(self):
        for seed, land in enumerate(SOME[::2] + NINE):
            dice = Dice(seed)
            desk, house = Desk(land), House(land)
            for _ in range(12):
                word = dice.pick(("undo", "redo", "undo", "redo", "do", "do", "do"))
                if word == "do":
                    deed = some_deed(dice, house.land())
                    house.do(deed)
                    expected, line = str(len(house.deeds())), deed_text(deed)
                else:
                    line = word
                    try:
                        expected = str(house.undo() if word == "undo" else house.redo())
                    except NothingDone:
                        expected = "refused"
                self.assertEqual(exact(desk.say(line)), exact(expected))
                self.assertEqual(exact(desk.house().board()), exact(house.board()))

    def test_nothing_done(self):
        desk = Desk(FOUR)
        self.assertEqual([desk.say("undo"), desk.say("redo"), desk.say("log"), desk.say("join 0"), desk.say("redo"), desk.say("log")],
                         ["refused", "refused", "nothing", "1", "refused", "join 0"])
        self.assertEqual([desk.say("undo"), desk.say("undo"), desk.say("log"), desk.say("redo"), desk.say("redo"), desk.say("log")],
                         ["0", "refused", "nothing", "1", "refused", "join 0"])

    def test_settle(self):
        for land in SOME[::3] + NINE:
            desk, house = Desk(land), House(land)
            self.assertEqual(desk.say("settle"), str(house.settle()))
            self.assertEqual(desk.house().board(), house.board())
            self.assertEqual([desk.say("settle"), desk.say("joins")], ["0", "lot -"])
        desk = Desk(TRIPLE)
        self.assertEqual([desk.say("length 0 9"), desk.say("undo"), desk.say("settle"), desk.say("redo")], ["1", "0", "0", "1"])

    def test_texts_of_no_deeds(self):
        for land in SOME[::3]:
            desk = Desk(land)
            for e in range(len(land[1]) + 2):
                for deed in (("length", e, 0), ("length", e, land[3][e] if e < len(land[1]) else 7), ("join", e), ("shrink", e)):
                    if land_behind(land, deed) is None:
                        self.check_what(desk, deed_text(deed))
                    else:
                        self.assertEqual(Desk(land).say(deed_text(deed)), "1")

    def test_sixty_digits(self):
        desk = Desk(FOUR)
        for line in ("join " + "1" * 60, "shrink " + "9" * 60, "length " + "1" * 60 + " 3", "length 0 1" + "0" * 60, "length 0 0" + "1" * 59):
            self.check_what(desk, line)
        # Nine digits are no bound for deeds, as they are for other numbers.
        self.assertEqual([desk.say("length 0 1000000000"), desk.say("width"), desk.say("undo")], ["1", "1000000002", "0"])


class Numbers(unittest.TestCase):

    def test_tables(self):
        told = set()
        for land in SOME[::2] + NINE:
            desk = Desk(land)
            least = least_width(land)
            for k in sorted({1, 2, least, least + 1, 999999999}):
                table = greatest_table(land, k)
                told.add(table is None)
                if k < 10 ** 9:
                    self.assertEqual(exact(desk.say(f"table {k}")), exact("none" if table is None else table_text(table)))
        self.assertEqual(told, {True, False})

    def test_bells_and_foxes(self):
        told = set()
        for land in SOME[::5] + (FOUR, HUNG, ROW) + NINE[2:3]:
            desk = Desk(land)
            least = least_width(land)
            for k in {1, min(least, 999999999), min(least + 1, 999999999)}:
                for c in range(corner_count(land) + 1):
                    for s in range(land[0] + 1):
                        there = c < corner_count(land) and s < land[0]
                        e = bell_move(land, k, (c, s)) if there else None
                        expected = ("none" if e is None else str(e)) if there else "what"
                        told.add(("bell", expected if e is None else "border"))
                        self.assertEqual(exact(desk.say(f"bell {k} {c} {s}")), exact(expected))
                        for e in range(0, len(land[1]) + 1, 2):
                            expected = "what"
                            if there and e in bell_moves(land, c):
                                t = fox_move(land, k, (c, s), e)
                                expected = "caught" if t is None else str(t)
                            told.add(("fox", "shire" if expected.isdigit() else expected))
                            self.assertEqual(exact(desk.say(f"fox {k} {c} {s} {e}")), exact(expected))
            self.assertEqual(desk.house().deeds(), ())
        self.assertEqual(told, {("bell", "none"), ("bell", "border"), ("bell", "what"), ("fox", "caught"), ("fox", "shire"), ("fox", "what")})

    def test_by_the_land_as_it_stands(self):
        desk = Desk(FOUR)
        self.assertEqual([desk.say("bell 9 3 3"), desk.say("join 0"), desk.say("bell 9 3 3"), desk.say("bell 9 3 2")],
                         [str(bell_move(FOUR, 9, (3, 3))), "1", "what", str(bell_move(desk.house().land(), 9, (3, 2)))])


class Houses(unittest.TestCase):

    def test_the_house_itself(self):
        desk = Desk(FOUR)
        self.assertIs(desk.house(), desk.house())
        self.assertIs(type(desk.house()), House)
        self.assertIsNot(Desk(FOUR).house(), desk.house())
        self.assertEqual([desk.house().do(("join", 0)), desk.say("log"), desk.say("undo"), desk.house().redo(), desk.say("land")],
                         [1, "join 0", "0", 1, land_text(desk.house().land())])
        self.assertEqual([desk.house().settle(), desk.say("log"), desk.say("width")], [1, "join 0\njoin 0", str(desk.house().width())])

    def test_a_twin_is_another_house(self):
        desk = Desk(FOUR)
        twin = desk.house().twin()
        twin.do(("join", 0))
        self.assertEqual([desk.say("log"), desk.say("undo")], ["nothing", "refused"])

    def test_all_answers_are_texts(self):
        for land in SOME[::6]:
            desk = Desk(land)
            for line in WORDS + NO_LINES:
                self.assertIs(type(desk.say(line)), str)
