"""[5.1] and [5.3] to [5.7]: sketches, falls, laps, greatest tables, where tables go, thin tables."""

import unittest

from foxborders.land import outer_borders, with_length
from foxborders.rounds import pieces, round_of
from foxborders.tables import (fallen, falls, first_sketch, goes_at, greatest_table, greatest_within, is_table, is_within,
                               judge_table, lap_of, laps, sketch_pieces, thin_table, together)
from tests.lands import BY_HAND, FOUR, GREAT, GROWN, LANDS, LARGE, ONE, RING, ROW, TRIPLE, WOVEN, Dice, prism, woven_land
from tests.plans_oracle import least_width_of_all
from tests.tables_oracle import Ground, all_empty, random_sketch, within, without
from tests.values import exact, unchanged

MOST = 10 ** 12 - 1
# Lands, with a number, in whose tables there are borders with several pieces, one of which can fall by itself.
SEVERAL = ((prism(8, (5, 1, 1, 2)), 7), (prism(8, (5, 1, 1, 2)), 8), (woven_land(59, 16, 4), 11), (woven_land(65, 10, 3), 14))
WITH_TABLES = tuple(land for land in WOVEN + GROWN if greatest_table(land, 2) is not None)


def numbers_for(land):
    """Numbers at which a table goes, or nothing happens."""
    many = len(land[1])
    goes = goes_at(land)
    told = {1, 2, MOST, goes, max(goes - 1, 1), max(goes - 2, 1), goes + 1}
    if many > 1:
        told |= {round_of(land, 0, many - 1), round_of(land, 0, many - 1) + 1}
    return sorted(told)


class Sketches(unittest.TestCase):

    def test_first(self):
        for land in LANDS:
            told = unchanged(self, first_sketch, land)
            self.assertEqual(exact(told), exact(Ground(land, 1).first()))
        self.assertEqual(first_sketch(TRIPLE), (((0, 1),) * 3, ((),) * 3))

    def test_within_and_together(self):
        for land in LANDS:
            dice = Dice(len(land[1]))
            first = first_sketch(land)
            for part in (2, 5):
                one, other = random_sketch(dice, first, part), random_sketch(dice, first, part + 3)
                less = random_sketch(dice, one, 4)
                self.assertIs(unchanged(self, is_within, less, one), True)
                self.assertIs(is_within(one, other), within(one, other))
                self.assertIs(is_within(one, less), within(one, less))
                both = unchanged(self, together, one, other)
                expected = tuple(tuple(tuple(sorted(set(a) | set(b))) for a, b in zip(*rows)) for rows in zip(one, other))
                self.assertEqual(exact(both), exact(expected))
                self.assertEqual(together(less, one), one)

    def test_within_looks_everywhere(self):
        first = first_sketch(FOUR)
        for place in range(2):
            for at in range(len(first[place])):
                rows = list(first)
                rows[place] = rows[place][:at] + (rows[place][at][1:],) + rows[place][at + 1:]
                self.assertIs(is_within(first, tuple(rows)), False)
                self.assertIs(is_within(tuple(rows), first), True)

    def test_pieces(self):
        for land in BY_HAND + GROWN[:40]:
            dice = Dice(land[0] + 5)
            for k in numbers_for(land):
                ground = Ground(land, k)
                for e, others in enumerate(first_sketch(land)[1]):
                    self.assertEqual(sketch_pieces(land, k, e, others), pieces(land, e, k))
                    some = tuple(s for s in others if dice.below(3))
                    self.assertEqual(exact(unchanged(self, sketch_pieces, land, k, e, some)), exact(ground.pieces(e, some)))
                    self.assertEqual(sketch_pieces(land, k, e, ()), ())


class Falls(unittest.TestCase):

    def test_falls_from_sketches(self):
        for land in BY_HAND + GROWN[:30] + WOVEN[:10]:
            dice = Dice(len(land[1]) + 3)
            for k in numbers_for(land):
                ground = Ground(land, k)
                sketch = first_sketch(land)
                for part in (9, 3, 2, 1):
                    told = unchanged(self, falls, land, k, sketch)
                    self.assertEqual(exact(told), exact(ground.falls(sketch)))
                    sketch = random_sketch(dice, sketch, part)

    def test_none_from_what_is_empty(self):
        for land in BY_HAND:
            at, along = first_sketch(land)
            self.assertEqual(falls(land, 3, (((),) * len(at), ((),) * len(along))), ())

    def test_fallen(self):
        for land in BY_HAND + GROWN[:20]:
            sketch = first_sketch(land)
            for fall in falls(land, 5, sketch)[::3]:
                self.assertEqual(exact(unchanged(self, fallen, sketch, fall)), exact(without(sketch, fall)))
        at, along = first_sketch(FOUR)
        # Any shires of along, pieces or not; what falls last leaves ().
        self.assertEqual(fallen((at, along), ("along", 5, (0, 1)))[1][5], ())
        self.assertEqual(fallen((at, along), ("along", 2, (2,)))[1][2], (1,))
        self.assertEqual(fallen((((3,),) + at[1:], along), ("at", 0, 3))[0][0], ())

    def test_any_sequence_comes_to_the_same(self):
        for land in BY_HAND + WOVEN[:10] + GROWN[:10]:
            dice = Dice(land[0] + 11)
            for k in numbers_for(land):
                ground = Ground(land, k)
                told = unchanged(self, greatest_table, land, k)
                for _ in range(2):
                    left = ground.left_of(first_sketch(land), dice)
                    if told is None:
                        self.assertTrue(all_empty(left))
                    else:
                        self.assertEqual(exact(told), exact(left))


class Greatest(unittest.TestCase):

    def test_within_sketches(self):
        found = 0
        for land in WITH_TABLES[::3] + BY_HAND:
            dice = Dice(len(land[1]) + 2)
            for k in numbers_for(land)[:5:2]:
                ground = Ground(land, k)
                for part in (30, 8, 2):
                    sketch = random_sketch(dice, greatest_table(land, k) or first_sketch(land), part)
                    told = unchanged(self, greatest_within, land, k, sketch)
                    left = ground.left_of(sketch, dice)
                    if told is None:
                        self.assertTrue(all_empty(left))
                    else:
                        found += 1
                        self.assertEqual(exact(told), exact(left))
                        self.assertIsNone(ground.fault(told))
        self.assertGreater(found, 40)

    def test_where_pieces_fall_by_themselves(self):
        less = 0
        for land, k in SEVERAL:
            ground = Ground(land, k)
            dice = Dice(k)
            table = greatest_table(land, k)
            for c, shires in list(enumerate(table[0]))[::4]:
                for s in shires[::2]:
                    sketch = without(table, ("at", c, s))
                    left = ground.left_of(sketch, dice)
                    less += left != sketch and not all_empty(left)
                    told = greatest_within(land, k, sketch)
                    self.assertEqual(told, None if all_empty(left) else left)
            # From along alone something falls here, too.
            for e, shires in list(enumerate(table[1]))[::7]:
                sketch = without(table, ("along", e, shires[:1]))
                left = ground.left_of(sketch, dice)
                self.assertEqual(greatest_within(land, k, sketch), None if all_empty(left) else left)
        self.assertGreater(less, 0)

    def test_within_a_table(self):
        for land in WITH_TABLES:
            told = greatest_table(land, 2)
            self.assertEqual(greatest_within(land, 2, told), told)
            at, along = told
            self.assertIsNone(greatest_within(land, 2, (at[:-1] + ((),), along)))
            self.assertIsNone(greatest_within(land, 2, (at, ((),) + along[1:])))
            # Nothing falls from a sketch that has () alone; it is no table.
            self.assertIsNone(greatest_within(land, 2, (((),) * len(at), ((),) * len(along))))

    def test_first_sketch(self):
        for land in LANDS + WOVEN:
            for k in numbers_for(land):
                told = greatest_table(land, k)
                self.assertEqual(exact(told), exact(greatest_within(land, k, first_sketch(land))))
                self.assertEqual(told is None, k >= goes_at(land))
                if told is not None:
                    self.assertIs(is_table(land, k, told), True)

    def test_two_tables_together(self):
        for land in WITH_TABLES:
            k = max(goes_at(land) - 1, 1)
            dice = Dice(k)
            greatest = greatest_table(land, k)
            tables = [greatest, thin_table(land, k, greatest)]
            for _ in range(12):
                found = greatest_within(land, k, random_sketch(dice, greatest, 12))
                if found is not None:
                    tables.append(found)
            for one in tables:
                self.assertIs(is_within(one, greatest), True)
                for other in tables:
                    self.assertIsNone(judge_table(land, k, together(one, other)))

    def test_lesser_numbers_and_greater_lengths(self):
        for land in WITH_TABLES:
            dice = Dice(land[0])
            k = goes_at(land) - 1
            table = greatest_table(land, k)
            longer = land
            for _ in range(3):
                e = dice.below(len(land[1]))
                longer = with_length(longer, e, longer[3][e] + dice.below(4))
                self.assertIsNone(judge_table(longer, k, table))
            for less in {1, 2, k // 2, k - 1} - {0}:
                self.assertIsNone(judge_table(land, less, table))


class Laps(unittest.TestCase):

    def test_laps(self):
        for land in BY_HAND + GROWN[:25] + WOVEN[:15]:
            for k in numbers_for(land):
                ground = Ground(land, k)
                sketches = [first_sketch(land)]
                while ground.falls(sketches[-1]):
                    sketch = sketches[-1]
                    for word in ("at", "along"):
                        for fall in [fall for fall in ground.falls(sketch) if fall[0] == word]:
                            sketch = without(sketch, fall)
                    sketches.append(sketch)
                told = unchanged(self, laps, land, k)
                self.assertEqual(exact(told), exact(tuple(sketches)))
                greatest = greatest_table(land, k)
                self.assertTrue(told[-1] == greatest or greatest is None and all_empty(told[-1]))

    def test_lap_of_each_shire(self):
        for land in BY_HAND + GROWN[:12] + WOVEN[:6]:
            for k in numbers_for(land)[:4]:
                told = laps(land, k)
                for c in range(len(told[0][0])):
                    for s in range(land[0]):
                        left = [number for number, sketch in enumerate(told) if s not in sketch[0][c]]
                        self.assertEqual(unchanged(self, lap_of, land, k, c, s), left[0] if left else None)


class Goes(unittest.TestCase):

    def test_by_hand(self):
        self.assertEqual([goes_at(land) for land in (ONE, TRIPLE, ROW, RING)], [1, 1, 1, 1])
        self.assertEqual(goes_at(FOUR), 5)

    def test_least_number_without_a_table(self):
        for land in LANDS + WOVEN:
            told = unchanged(self, goes_at, land)
            self.assertIsNone(greatest_table(land, told))
            self.assertTrue(told == 1 or greatest_table(land, told - 1) is not None)
            many = len(land[1])
            rounds = [round_of(land, e, f) for e in range(min(many, 25)) for f in range(e)]
            if many <= 25:
                self.assertIn(told, [1] + [length + 1 for length in rounds])

    def test_all_numbers(self):
        for land in WOVEN[:20]:
            told = goes_at(land)
            for k in range(1, told + 12):
                self.assertEqual(greatest_table(land, k) is None, k >= told)

    def test_least_width(self):
        for land in LANDS + WOVEN:
            if land[0] <= 6:
                self.assertEqual(max(max(outer_borders(land)), goes_at(land) - 1), least_width_of_all(land))


class Thin(unittest.TestCase):

    def test_shire_by_shire(self):
        cases = [(land, k) for land in WITH_TABLES[:16] for k in {goes_at(land) - 1, max(goes_at(land) - 2, 1)}]
        for land, k in cases + list(SEVERAL[1:2]):
            ground = Ground(land, k)
            dice = Dice(k)
            table = greatest_table(land, k)
            left = table
            for c in range(len(table[0])):
                for s in left[0][c]:
                    if s in left[0][c]:
                        tried = ground.left_of(without(left, ("at", c, s)), dice)
                        left = left if all_empty(tried) else tried
            self.assertEqual(exact(unchanged(self, thin_table, land, k, table)), exact(left))

    def test_nothing_can_be_taken(self):
        cases = [(land, k) for land in WITH_TABLES + GREAT[:3] for k in {1, goes_at(land) - 1}]
        for land, k in cases + list(SEVERAL):
            table = greatest_table(land, k)
            thin = thin_table(land, k, table)
            self.assertIsNone(judge_table(land, k, thin))
            self.assertIs(is_within(thin, table), True)
            for c, shires in enumerate(thin[0]):
                for s in shires:
                    self.assertIsNone(greatest_within(land, k, fallen(thin, ("at", c, s))))
            self.assertEqual(thin_table(land, k, thin), thin)


class Sizes(unittest.TestCase):

    def test_great_lands(self):
        for land in LARGE + GREAT:
            for k in (1, 999999999, MOST):
                told = laps(land, k)
                greatest = greatest_table(land, k)
                self.assertEqual(greatest is None, k >= goes_at(land))
                if greatest is not None:
                    self.assertEqual(told[-1], greatest)
                    self.assertIsNone(judge_table(land, k, thin_table(land, k, greatest)))
                self.assertEqual(falls(land, k, told[-1]), ())
                self.assertGreater(len(falls(land, k, told[0])), 0)
                self.assertEqual(lap_of(land, k, 0, land[1][0][0]) is None, greatest is not None
                                 and land[1][0][0] in greatest[0][0])
