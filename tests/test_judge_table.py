"""[5.2] judge_table and is_table, of any value."""

import unittest

from foxborders.tables import first_sketch, goes_at, greatest_table, is_table, judge_table, thin_table
from foxborders.texts import read_table
from tests.lands import BY_HAND, FOUR, ONE, RING, TRIPLE, Dice
from tests.tables_oracle import Ground
from tests.test_tables import SEVERAL, WITH_TABLES
from tests.values import changes, exact, odd_values, unchanged

TABLE = greatest_table(FOUR, 4)
AT, ALONG = TABLE


class Judged(unittest.TestCase):

    def judged(self, land, k, value, ground=None):
        fault = (ground or Ground(land, k)).fault(value)
        self.assertEqual(exact(unchanged(self, judge_table, land, k, value)), exact(fault), (k, value))
        self.assertIs(is_table(land, k, value), fault is None)
        return fault and fault[0]

    def test_tables(self):
        for land in WITH_TABLES:
            k = goes_at(land) - 1
            table = greatest_table(land, k)
            for value in (table, thin_table(land, k, table)):
                self.assertIsNone(self.judged(land, k, value))
                self.assertIsNone(self.judged(land, 1, value))
                self.assertEqual(judge_table(land, k + 1, value)[0], "piece")
                self.assertEqual(judge_table(land, 10 ** 12 - 1, value)[0], "piece")

    def test_tables_of_lesser_numbers(self):
        great = 0
        for land in WITH_TABLES[::2] + tuple(land for land, _ in SEVERAL):
            k = goes_at(land) - 1
            table = thin_table(land, k, greatest_table(land, 1))
            for value in (table, greatest_table(land, k), greatest_table(land, max(k // 2, 1))):
                for number in (k, k + 1, k + 3, 2 * k, 10 ** 12 - 1):
                    ground = Ground(land, number)
                    fault = self.judged(land, number, value, ground) and ground.fault(value)
                    if fault is not None:
                        word, e, _, s = fault
                        # The least shire tells pieces of several shires, too.
                        great += word == "piece" and [len(piece) for piece in ground.pieces(e, value[1][e]) if s in piece][0] > 1
        self.assertGreater(great, 5)

    def test_any_value(self):
        for value in odd_values():
            for land in (ONE, FOUR):
                self.assertEqual(judge_table(land, 1, value), ("form",))
                self.assertIs(is_table(land, 1, value), False)

    def test_form(self):
        for value in ([AT, ALONG], (AT,), (AT, ALONG, ()), (list(AT), ALONG), (AT, list(ALONG)), (AT[1:], ALONG), (AT, ALONG[1:]),
                      (AT + AT[:1], ALONG), (AT, ALONG + ALONG[:1]), (((),) + AT[1:], ALONG), (AT, ((),) + ALONG[1:]),
                      (([3],) + AT[1:], ALONG), (((3, 3),) + AT[1:], ALONG), (AT, ((3, 2),) + ALONG[1:]), (AT, ((2, 4),) + ALONG[1:]),
                      (AT, ((-1, 2),) + ALONG[1:]), (((True,),) + AT[1:], ALONG), (AT, ((False,),) + ALONG[1:]), (AT[:3] + (3,), ALONG),
                      (AT[:3] + (None,), ALONG), (("3",) + AT[1:], ALONG), (AT, None), (None, ALONG), (ALONG, AT), {0: AT, 1: ALONG}):
            self.assertEqual(judge_table(FOUR, 4, value), ("form",), value)
        # There is no other form of a sketch of two shires than one with ().
        for land in (ONE, TRIPLE):
            self.assertEqual(judge_table(land, 1, first_sketch(land)), ("form",))

    def test_lies(self):
        self.assertEqual(judge_table(FOUR, 4, (AT, ((0, 3),) + ALONG[1:])), ("lies", 0, 0))
        self.assertEqual(judge_table(FOUR, 4, (AT, ALONG[:4] + ((1, 3), (2, 3)))), ("lies", 4, 1))
        self.assertEqual(judge_table(FOUR, 4, (AT, ALONG[:1] + ((0, 2),) + ALONG[2:])), ("lies", 1, 0))
        self.assertEqual(judge_table(ONE, 1, (((0,),), ((1,),))), ("lies", 0, 1))

    def test_corner(self):
        self.assertEqual(judge_table(FOUR, 4, (((0, 3),) + AT[1:], ALONG)), ("corner", 0, 0, 0))
        self.assertEqual(judge_table(FOUR, 4, (AT[:3] + ((0, 1, 2),), ALONG)), ("corner", 3, 3, 1))
        self.assertEqual(judge_table(FOUR, 4, (AT[:2] + ((0, 1), (0, 1)), ALONG)), ("corner", 2, 1, 0))

    def test_piece(self):
        self.assertEqual(judge_table(FOUR, 5, TABLE), ("piece", 1, 0, 1))
        # At the lesser end all is well; the lesser of two pieces is at the other end.
        at = ((2, 3), (2,), (1,), (0,))
        self.assertEqual(judge_table(FOUR, 5, (at, ALONG))[0], "corner")
        self.assertEqual(judge_table(RING, 5, (((0, 1, 2, 3),) * 2, ((2, 3), (0, 3), (0, 1), (1, 2)))), ("corner", 0, 0, 0))

    def test_kinds_in_their_sequence(self):
        lies = ((0, 1),) + ALONG[1:]
        corner = ((0, 3),) + AT[1:]
        self.assertEqual(judge_table(FOUR, 5, (corner, lies)), ("lies", 0, 0))
        self.assertEqual(judge_table(FOUR, 5, (corner, ALONG)), ("corner", 0, 0, 0))
        self.assertEqual(judge_table(FOUR, 5, (corner, lies[:5] + ([],))), ("form",))

    def test_what_was_read(self):
        self.assertEqual(judge_table(FOUR, 4, read_table("table")), ("form",))
        self.assertEqual(judge_table(FOUR, 4, read_table("table" + "\nat 1 0" * 4 + "\nalong 0" * 6)), ("form",))
        self.assertEqual(judge_table(FOUR, 4, read_table("table" + "\nat 3" * 4 + "\nalong 3" * 6)), ("lies", 2, 3))

    def test_one_part_changed(self):
        for land in (FOUR, WITH_TABLES[3]):
            k = goes_at(land) - 1
            ground = Ground(land, k)
            for value in changes(thin_table(land, k, greatest_table(land, k))):
                self.judged(land, k, value, ground)

    def test_at_random(self):
        dice = Dice(63)
        told = []
        for land in WITH_TABLES[:30] + BY_HAND:
            for k in (1, max(goes_at(land) - 1, 1), goes_at(land)):
                ground = Ground(land, k)
                table = greatest_table(land, k) or first_sketch(land)
                for _ in range(12):
                    rows = [list(part) for part in table]
                    for _ in range(dice.below(3)):
                        part = dice.pick(rows)
                        place = dice.below(len(part))
                        shire = dice.below(land[0])
                        part[place] = tuple(sorted(set(part[place]) ^ {shire}))
                    told.append(self.judged(land, k, tuple(map(tuple, rows)), ground))
        self.assertEqual(set(told), {None, "form", "lies", "corner", "piece"})
