"""[1.2] judge_land and is_land, of any value."""

import itertools
import unittest

from foxborders.land import is_land, judge_land
from tests.lands import BY_HAND, FOUR, HUNG, LANDS, ONE, RING, ROW, STAR, TRIPLE, Dice, count_corners
from tests.values import changes, exact, odd_values, unchanged

BIG = 10 ** 59


def whole(value):
    return type(value) is int


def expected(value):
    """The first fault by [1.2], found in another way than the package finds it: all kinds, each by its least place."""
    if type(value) is not tuple or len(value) != 4 or [type(part) for part in value] != [int, tuple, tuple, tuple]:
        return ("form",)
    n, borders, turns, lengths = value
    if n < 2 or not borders or len(turns) != n or len(lengths) != len(borders):
        return ("form",)
    faults = [("border", e) for e, pair in enumerate(borders)
              if not (type(pair) is tuple and len(pair) == 2 and all(map(whole, pair)) and 0 <= pair[0] < pair[1] < n)]
    if faults:
        return faults[0]
    for s, turn in enumerate(turns):
        mine = {e for e, pair in enumerate(borders) if s in pair}
        if type(turn) is not tuple or not all(map(whole, turn)) or len(turn) != len(mine) or set(turn) != mine:
            return ("turn", s)
    faults = [("length", e) for e, length in enumerate(lengths) if not whole(length) or length <= 0]
    if faults:
        return faults[0]
    pieces = [{s} for s in range(n)]
    for a, b in borders:
        joined = [piece for piece in pieces if a in piece or b in piece]
        pieces = [piece for piece in pieces if piece not in joined] + [set().union(*joined)]
    if len(pieces) > 1:
        return ("pieces",)
    many = count_corners(turns)
    return None if many == 2 - n + len(borders) else ("euler", many)


class Judged(unittest.TestCase):

    def judged(self, value, fault):
        self.assertEqual(exact(unchanged(self, judge_land, value)), exact(fault))
        self.assertIs(is_land(value), fault is None)

    def test_right_lands(self):
        for land in LANDS:
            self.judged(land, None)

    def test_lengths_however_great(self):
        self.judged(ONE[:3] + ((BIG,),), None)

    def test_values_of_other_kinds(self):
        for value in odd_values():
            self.judged(value, ("form",))

    def test_form(self):
        n, borders, turns, lengths = FOUR
        for value in (list(FOUR), FOUR[:3], FOUR + (1,), ("4", borders, turns, lengths), (None, borders, turns, lengths),
                      (n, list(borders), turns, lengths), (n, borders, list(turns), lengths),
                      (n, borders, turns, list(lengths)), (n, {0: borders}, turns, lengths), (n, borders, "abcd", lengths),
                      (n, borders, turns, "abcdef"), (3, borders, turns, lengths), (5, borders, turns, lengths),
                      (BIG, borders, turns, lengths), (-4, borders, turns, lengths), (n, borders, turns[:3], lengths),
                      (n, borders, turns, lengths[:5]), (n, borders, turns, lengths + (1,)),
                      (n, borders[:5], turns, lengths), (2, (), ((), ()), ()), (n, None, turns, None)):
            self.judged(value, ("form",))

    def test_too_few_shires(self):
        self.judged((1, ((0, 1),), ((0,),), (1,)), ("form",))
        self.judged((0, ((0, 1),), (), (1,)), ("form",))
        self.judged((True, ((0, 1),), ((0,),), (1,)), ("form",))
        self.judged((False, ((0, 1),), (), (1,)), ("form",))

    def test_border(self):
        for pair in ((1, 0), (1, 1), (-1, 1), (0, 2), (0, BIG), (0, True), (False, 1), (False, True), (0,), (0, 1, 1), (),
                     [0, 1], "01", None, 0, (0, "1"), (None, 1), ((0,), 1), (0, [1]), {0: 1}):
            self.judged((2, (pair,), ((0,), (0,)), (1,)), ("border", 0))
            self.judged((2, ((0, 1), pair), ((0, 1), (1, 0)), (1, 1)), ("border", 1))

    def test_turn(self):
        n, borders, turns, lengths = FOUR
        for turn in ((0, 1), (0, 1, 2, 3), (0, 1, 1), (0, 1, 2, 2), (0, 1, 3), (0, 1, -1), [0, 1, 2], "012", None, 7, (),
                     {0: 1}, (False, 1, 2), (0, True, 2), (0, 1, "2"), (0, 1, None), (0, 1, (2,)), (0, 1, [2]), (0, 1, BIG)):
            self.judged((n, borders, (turn,) + turns[1:], lengths), ("turn", 0))
        for turn in ((2, 5), (2, 5, 4, 0), (2, 5, 5), [2, 5, 4], (2, 4, 3)):
            self.judged((n, borders, turns[:3] + (turn,), lengths), ("turn", 3))
        self.judged((3, ((0, 1),), ((0,), (0,), (0,)), (1,)), ("turn", 2))
        self.judged((3, ((0, 1),), ((0,), (0,), [])) + ((1,),), ("turn", 2))

    def test_length(self):
        for length in (0, -1, -BIG, True, False, None, "1", (1,), [1], {}):
            self.judged(ONE[:3] + ((length,),), ("length", 0))
            self.judged(TRIPLE[:3] + ((1, length, 1),), ("length", 1))

    def test_pieces(self):
        self.judged((4, ((0, 1), (2, 3)), ((0,), (0,), (1,), (1,)), (1, 1)), ("pieces",))
        self.judged((3, ((0, 1),), ((0,), (0,), ()), (1,)), ("pieces",))
        self.judged((3, ((1, 2),), ((), (0,), (0,)), (1,)), ("pieces",))
        # Euler's sum is 2 here, yet there are two pieces: the one has a sum of 0.
        torus = ((0, 1), (0, 1), (0, 1), (2, 3))
        self.judged((4, torus, ((0, 1, 2), (0, 1, 2), (3,), (3,)), (1, 1, 1, 1)), ("pieces",))

    def test_euler(self):
        self.judged((2, ((0, 1), (0, 1), (0, 1)), ((0, 1, 2), (0, 1, 2)), (1, 1, 1)), ("euler", 1))
        self.judged(FOUR[:2] + (((0, 2, 1),) + FOUR[2][1:], FOUR[3]), ("euler", 2))

    def test_kinds_in_their_sequence(self):
        borders, turns, lengths = ((0, 1), (2, 3), (0, 1)), ((0, 2), (2, 0), (1,), (1,)), (1, 1, 1)
        self.judged((4, borders, turns, lengths), ("pieces",))
        self.judged((4, borders, turns, (1, 0, 0)), ("length", 1))
        self.judged((4, borders, turns[:2] + ((), ()), (0, 0, 0)), ("turn", 2))
        self.judged((4, borders[:2] + ((1, 0),), ((), (), (), ()), (0, 0, 0)), ("border", 2))
        self.judged((4, borders[:2] + ((1, 0),), ((), (), (), ()), (0, 0)), ("form",))
        # No corners are counted where there is no one piece.
        twice = ((0, 1), (0, 1), (0, 1), (2, 3))
        self.judged((4, twice, ((0, 1, 2), (0, 1, 2), (3,), (3,)), (1, 1, 1, 0)), ("length", 3))
        self.judged((5, twice, ((0, 1, 2), (0, 1, 2), (3,), (3,), ()), (1, 1, 1, 1)), ("pieces",))

    def test_least_place(self):
        self.judged((2, ((0, 1), None, (1, 0)), ((), ()), (1, 1, 1)), ("border", 1))
        self.judged(STAR[:2] + (((0,), (), (1,), ()), STAR[3]), ("turn", 1))
        self.judged(STAR[:3] + ((1, True, 0),), ("length", 1))

    def test_small_values_of_all_kinds(self):
        many = 0
        for n, m in ((2, 1), (2, 2), (2, 3), (3, 2), (3, 3), (4, 3)):
            pairs = list(itertools.combinations(range(n), 2))
            for borders in itertools.product(pairs, repeat=m):
                mine = [[e for e, pair in enumerate(borders) if s in pair] for s in range(n)]
                for turns in itertools.product(*[list(itertools.permutations(numbers)) for numbers in mine]):
                    value = (n, borders, turns, (1,) * m)
                    self.judged(value, expected(value))
                    many += 1
        self.assertGreater(many, 500)

    def test_turns_in_all_sequences(self):
        told = {}
        for turns in itertools.product(*[list(itertools.permutations(turn)) for turn in FOUR[2]]):
            value = (4, FOUR[1], turns, FOUR[3])
            fault = expected(value)
            self.judged(value, fault)
            told[fault] = told.get(fault, 0) + 1
        self.assertEqual(sum(told.values()), 6 ** 4)
        self.assertGreaterEqual(len(told), 2)

    def test_one_part_changed(self):
        for land in (ONE, TRIPLE, ROW, RING, HUNG, FOUR):
            for value in changes(land):
                self.judged(value, expected(value))

    def test_several_parts_changed(self):
        dice = Dice(5)
        told = set()
        for _ in range(1500):
            value = dice.pick(BY_HAND)
            for _ in range(2 + dice.below(2)):
                value = dice.pick([part for part in changes(value) if type(part) is tuple])
            fault = expected(value)
            self.judged(value, fault)
            told.add(fault and fault[0])
        self.assertGreaterEqual(told, {"form", "border", "turn", "length"})
