"""[2.4] and [2.5]: the land of a sheet, and sheets mirrored, turned, blown, with other letters, as texts."""

import unittest

from foxborders.errors import BadText
from foxborders.land import (corners, is_land, mirrored_land, next_side, outer_border, renumbered_land, same_land,
                             times_land)
from foxborders.sheets import (blown_sheet, border_sides, corner_points, is_sheet, land_of_sheet, letters_of,
                               mirrored_sheet, read_sheet, sheet_text, shire_of_cell, turned_sheet, with_letter)
from tests.lands import Dice, all_sides
from tests.sheets import (LARGE, SHEETS, corner_marks, points_of, rounds_about, rows_of_sides, sign_at, unit_sides)
from tests.values import exact, odd_values, unchanged


class Lands(unittest.TestCase):

    def test_right_lands(self):
        for sheet in SHEETS + LARGE:
            self.assertTrue(is_land(unchanged(self, land_of_sheet, sheet)), sheet)

    def test_letters(self):
        for sheet in SHEETS + LARGE:
            letters = unchanged(self, letters_of, sheet)
            self.assertEqual(letters, "".join(sorted(set("".join(sheet)) - {"."})))
            self.assertEqual(land_of_sheet(sheet)[0], len(letters) + 1)

    def test_cells(self):
        for sheet in SHEETS:
            letters = letters_of(sheet)
            for r in range(-2, len(sheet) + 2):
                for c in range(-2, len(sheet[0]) + 2):
                    self.assertEqual(shire_of_cell(sheet, r, c), ("." + letters).index(sign_at(sheet, r, c)))
        for cell in ((10 ** 9, 0), (0, 10 ** 9), (-10 ** 9, 0), (0, -1), (-1, 0), (1, 0), (0, 2)):
            self.assertEqual(shire_of_cell(("ab",), *cell), 0)

    def test_borders_and_their_sides(self):
        for sheet in SHEETS + LARGE:
            rows = unchanged(self, border_sides, sheet)
            self.assertEqual(exact(rows), exact(rows_of_sides(sheet)), sheet)
            land = land_of_sheet(sheet)
            self.assertEqual(land[3], tuple(map(len, rows)))
            signs = unit_sides(sheet)
            for (a, b), row in zip(land[1], rows):
                for side in row:
                    self.assertEqual(sorted(("." + letters_of(sheet)).index(sign) for sign in signs[side]), [a, b])

    def test_turns_and_corners(self):
        for sheet in SHEETS + LARGE:
            land = land_of_sheet(sheet)
            rounds = rounds_about(sheet, border_sides(sheet), land[1], letters_of(sheet))
            # What is told of the rounds fixes all turns, but for where they begin.
            self.assertEqual(corners(land), tuple(sorted(rounds)), sheet)
            self.assertEqual(unchanged(self, corner_points, sheet), tuple(rounds[sides] for sides in sorted(rounds)))
            self.assertEqual(sorted(corner_points(sheet)), corner_marks(sheet))
            for turn in land[2]:
                self.assertEqual(turn[0], min(turn))

    def test_turns_by_hand(self):
        # Two letters that touch at a point alone; the sea lies there on both sides.
        self.assertEqual(land_of_sheet(("a.", ".b"))[1:3], (((0, 1), (0, 2)), ((0, 1), (0,), (1,))))
        # A letter round another one, but for a point at which it lies on both sides slantwise.
        self.assertEqual(land_of_sheet(("aaa", "aba", "aa.")),
                         (3, ((0, 1), (1, 2)), ((0,), (0, 1), (1,)), (12, 4)))
        self.assertEqual(corner_points(("aaa", "aba", "aa.")), ((2, 2),))
        # Four letters about a point: down the left side of a, then to the right below it.
        self.assertEqual(land_of_sheet(("ab", "cd")),
                         (5, ((0, 1), (0, 2), (1, 2), (1, 3), (0, 3), (2, 4), (3, 4), (0, 4)),
                          ((0, 1, 7, 4), (0, 3, 2), (1, 2, 5), (3, 4, 6), (5, 6, 7)), (2, 2, 1, 1, 2, 1, 1, 2)))

    def test_one_letter(self):
        for sheet, point, length in ((("a",), (0, 0), 4), (("..", ".z"), (1, 1), 4), ((".a.", "aaa"), (0, 1), 10)):
            self.assertEqual(land_of_sheet(sheet), (2, ((0, 1),), ((0,), (0,)), (length,)))
            self.assertEqual(corner_points(sheet), (point,))

    def test_outer_borders(self):
        dice = Dice(3)
        for sheet in SHEETS:
            land = land_of_sheet(sheet)
            lots = [(s,) for s in range(land[0])]
            lots.extend(tuple(dice.shuffled(range(land[0]))[:dice.below(land[0] + 1)]) for _ in range(4))
            for lot in lots:
                many = 0
                for r in range(-1, len(sheet) + 1):
                    for c in range(-1, len(sheet[0]) + 1):
                        here = shire_of_cell(sheet, r, c) in lot
                        many += here != (shire_of_cell(sheet, r + 1, c) in lot)
                        many += here != (shire_of_cell(sheet, r, c + 1) in lot)
                self.assertEqual(outer_border(land, lot), many)

    def test_corner_at_the_end_of_the_walk(self):
        # Walking along border e with shire s on the left one comes to the corner that lies on the left of its side.
        for sheet in SHEETS:
            land, rows = land_of_sheet(sheet), border_sides(sheet)
            points = corner_points(sheet)
            where = {side: points[c] for c, sides in enumerate(corners(land)) for side in sides}
            for e, w in all_sides(land):
                sign = ("." + letters_of(sheet))[land[1][e][w]]
                begun, ended = [], []
                for side in rows[e]:
                    p, q = points_of(side)
                    r, c, upright = side
                    # Downwards has the left cell of a walk to the right; to the right has it above.
                    left = sign_at(sheet, r, c) if upright else sign_at(sheet, r - 1, c)
                    begun.append(p if left == sign else q)
                    ended.append(q if left == sign else p)
                over = [point for point in ended if point not in begun]
                self.assertEqual([where[(e, w)]], over or [point for point in ended if point == where[(e, w)]])
                self.assertEqual(where[next_side(land, (e, w))], where[(e, w)])


def order_by(rows, moved):
    """The order in which the borders of a sheet that was moved stand as those of the sheet, by moved points."""
    ends = [frozenset(frozenset(points_of(side)) for side in row) for row in rows[1]]
    told = []
    for row in rows[0]:
        sides = frozenset(frozenset(moved(*point) for point in points_of(side)) for side in row)
        told.append(ends.index(sides))
    return tuple(told)


class Changed(unittest.TestCase):

    def test_mirrored(self):
        for sheet in SHEETS + LARGE:
            mirrored = unchanged(self, mirrored_sheet, sheet)
            self.assertEqual(mirrored, tuple(row[::-1] for row in sheet))
            self.assertTrue(is_sheet(mirrored))
            wide = len(sheet[0])
            order = order_by((border_sides(sheet), border_sides(mirrored)), lambda r, c: (r, wide - c))
            land = renumbered_land(land_of_sheet(mirrored), order)
            self.assertTrue(same_land(land, mirrored_land(land_of_sheet(sheet))), sheet)
            self.assertEqual(mirrored_sheet(mirrored), sheet)

    def test_turned(self):
        for sheet in SHEETS + LARGE:
            turned = unchanged(self, turned_sheet, sheet)
            wide = len(sheet[0])
            self.assertEqual([len(turned), len(turned[0])], [wide, len(sheet)])
            for r, row in enumerate(sheet):
                for c, sign in enumerate(row):
                    self.assertEqual(turned[wide - 1 - c][r], sign)
            self.assertTrue(is_sheet(turned))
            order = order_by((border_sides(sheet), border_sides(turned)), lambda r, c: (wide - c, r))
            self.assertTrue(same_land(renumbered_land(land_of_sheet(turned), order), land_of_sheet(sheet)), sheet)
            self.assertEqual(turned_sheet(turned_sheet(turned_sheet(turned))), sheet)

    def test_blown(self):
        for sheet in SHEETS:
            for k in range(1, 6):
                blown = unchanged(self, blown_sheet, sheet, k)
                self.assertEqual([len(blown), len(blown[0])], [k * len(sheet), k * len(sheet[0])])
                self.assertEqual({(r, c): sign_at(blown, r, c) for r in range(len(blown)) for c in range(len(blown[0]))},
                                 {(r, c): sheet[r // k][c // k] for r in range(len(blown)) for c in range(len(blown[0]))})
                if len(blown) * len(blown[0]) <= 1000:
                    self.assertTrue(is_sheet(blown))
                    self.assertEqual(land_of_sheet(blown), times_land(land_of_sheet(sheet), k))

    def test_with_letter(self):
        for sheet in SHEETS:
            for one in "abz":
                for other in "acz":
                    told = unchanged(self, with_letter, sheet, one, other)
                    self.assertEqual(told, tuple("".join(other if sign == one else sign for sign in row) for row in sheet))
        self.assertEqual(with_letter(("ab.",), "b", "b"), ("ab.",))
        self.assertEqual(with_letter(("ab.",), "q", "b"), ("ab.",))

    def test_sheets_that_are_not_right(self):
        for sheet in (("..",), ("a.a", ".b."), ("aaa", "a.a", "aaa"), ("a.b", "...")):
            self.assertEqual(turned_sheet(turned_sheet(sheet)), mirrored_sheet(sheet)[::-1])
            self.assertEqual(blown_sheet(sheet, 1), sheet)
            self.assertEqual(read_sheet(sheet_text(sheet)), sheet)
        self.assertEqual(turned_sheet(("a.b",)), ("b", ".", "a"))
        self.assertEqual(blown_sheet(("a.", ".a"), 2), ("aa..", "aa..", "..aa", "..aa"))


SIGNS = ".abmz"


def can_be_read(text):
    rows = text.split("\n")
    return rows[0] != "" and len({len(row) for row in rows}) == 1 and all(
        sign == "." or "a" <= sign <= "z" for row in rows for sign in row)


def place_in(text):
    """The length of the longest beginning that some ending makes a text that can be read."""
    for many in range(len(text), -1, -1):
        if any(can_be_read(text[:many] + "." * more) for more in range(len(text) + 2)):
            return many
    raise AssertionError("nothing at all is a beginning")


class Texts(unittest.TestCase):

    def place(self, text, at):
        with self.assertRaises(BadText) as caught:
            unchanged(self, read_sheet, text)
        self.assertEqual(exact(caught.exception.place), exact(at), text)

    def test_written_and_read(self):
        for sheet in SHEETS + LARGE:
            text = unchanged(self, sheet_text, sheet)
            self.assertEqual(text.split("\n"), list(sheet))
            self.assertEqual(exact(read_sheet(text)), exact(sheet))
        self.assertEqual(read_sheet("."), (".",))
        self.assertEqual(read_sheet("..\n.."), ("..", ".."))

    def test_no_text(self):
        for value in odd_values() + [("a",), ["a"], b"a"]:
            if not isinstance(value, str):
                self.place(value, 0)

    def test_places(self):
        for text, at in (("", 0), ("\n", 0), ("A", 0), ("\na", 0), ("a\n", 2), ("a\n\na", 2), ("ab\na", 4), ("ab\na\nab", 4),
                         ("ab\nabc", 5), ("ab\nab\n", 6), ("aB", 1), ("ab\naB", 4), ("ab\nabB", 5), ("ab cd", 2),
                         ("ab\r\nab", 2), ("ab\nab ", 5), (" ab", 0), ("ab\n\tb", 3), ("a\nb\nc\nd\n0", 8), ("\u00e4", 0),
                         ("a" * 8000 + "A", 8000), ("a\n" * 4000, 8000), ("a" * 200 + "\n" + "a" * 199, 400)):
            self.place(text, at)

    def test_texts_changed(self):
        dice = Dice(23)
        read = []
        for _ in range(2500):
            text = sheet_text(dice.pick(SHEETS))[:30]
            for _ in range(dice.below(3)):
                one, other = sorted((dice.below(len(text) + 1), dice.below(len(text) + 1)))
                text = dice.pick((text[:one] + text[other:], text[:one] + dice.pick("a.z\n \tB`{") + text[one:],
                                  text[:one] + dice.pick("ab.\nA") + text[one + 1:]))
            read.append(can_be_read(text))
            if read[-1]:
                self.assertEqual(sheet_text(read_sheet(text)), text)
            else:
                self.place(text, place_in(text))
        self.assertGreater(read.count(True), 300)
        self.assertGreater(read.count(False), 300)
