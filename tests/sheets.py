"""Sheets for the tests, and what the document tells of them, told in another way than the package does it."""

from tests.lands import Dice

SIDES = ((0, 1), (1, 0), (0, -1), (-1, 0))
NEAR = tuple((r, c) for r in (-1, 0, 1) for c in (-1, 0, 1) if (r, c) != (0, 0))


def sign_at(sheet, r, c):
    inside = 0 <= r < len(sheet) and 0 <= c < len(sheet[0])
    return sheet[r][c] if inside else "."


def in_one_piece(cells, steps):
    left = set(cells)
    todo = [left.pop()] if left else []
    while todo:
        r, c = todo.pop()
        for down, right in steps:
            if (r + down, c + right) in left:
                left.remove((r + down, c + right))
                todo.append((r + down, c + right))
    return not left


def sheet_fault(value):
    """The first fault by [2.3], each sign looked at by itself, in a sheet with two rows and columns more about it."""
    if type(value) is not tuple or not value or any(type(row) is not str or not row for row in value):
        return ("form",)
    if len({len(row) for row in value}) > 1:
        return ("form",)
    odd = [(r, c) for r, row in enumerate(value) for c, sign in enumerate(row) if not (sign == "." or "a" <= sign <= "z")]
    if odd:
        return ("sign",) + min(odd)
    signs = sorted(set("".join(value)) - {"."})
    if not signs:
        return ("empty",)
    cells = {(r, c): sign_at(value, r, c) for r in range(-2, len(value) + 2) for c in range(-2, len(value[0]) + 2)}
    for sign in ["."] + signs:
        if not in_one_piece([cell for cell in cells if cells[cell] == sign], SIDES):
            return ("apart", sign)
    for sign in ["."] + signs:
        if not in_one_piece([cell for cell in cells if cells[cell] != sign], NEAR):
            return ("round", sign)
    return None


def changed_sheet(sheet, r, c, sign):
    row = sheet[r][:c] + sign + sheet[r][c + 1:]
    return sheet[:r] + (row,) + sheet[r + 1:]


def grown_sheet(seed, rows, columns, letters, steps):
    """A right sheet: one letter in the middle, then signs of cells nearby or new ones, as long as it stays right."""
    dice = Dice(seed)
    sheet = changed_sheet(("." * columns,) * rows, rows // 2, columns // 2, letters[0])
    for _ in range(steps):
        r, c = dice.below(rows), dice.below(columns)
        down, right = dice.pick(NEAR)
        sign = dice.pick((sign_at(sheet, r + down, c + right), dice.pick(letters)))
        changed = changed_sheet(sheet, r, c, sign)
        if sheet_fault(changed) is None:
            sheet = changed
    return sheet


# Letters that touch at a point alone; a letter round another one, but for a point; a letter at the sheet's rim.
BY_HAND = (
    ("a",), ("ab",), ("ab", "cc"), ("a.", ".b"), (".b", "a."), ("a.c", ".b."), ("aaa", "aba", "aa."), (".aa", "aba", "aaa"),
    ("a.a", "aaa"), ("...", ".z.", "..."), ("aab", "dxb", "dcc"), ("abc", "def", "ghi"), ("az", "az"),
    ("a.b", ".c.", "d.e"), ("aabb", "ccdd"), ("....a", "bbbb."), ("aaaa", "abca", "aa.a", "a..a"),
    ("zyxwvutsrqponmlkjihgfedcba",), ("ab", "cd"), ("ab", "ab"),
    ("aaaaa", "a.b.a", "a...a", "aaa.a"), ("...a", "b.c.", ".d.."), ("a...", ".c.b", "..d."), (".d..", "b.c.", "...a"),
)
GROWN = tuple(grown_sheet(seed, 2 + seed % 5, 2 + seed * 3 % 6, "abcdefghz"[:1 + seed % 9], 150) for seed in range(40))
SHEETS = tuple(sheet for sheet in BY_HAND + GROWN if sheet_fault(sheet) is None)
LARGE = (
    ("....................", "....................", "....................", "..........y.........",
     ".......sszww........", "........sspwakx.....", ".........f....xng...", "........uud...t.....",
     "....l.qvjue.........", ".....qqvj..........."),
    ("a" * 100, "b" * 100),
    tuple(letter * 7 for letter in "abcdefghijklmnopqrstuvwxyz"),
    ("." * 99 + "a" + "." * 100,),
)


def unit_sides(sheet):
    """Each unit side of a sheet, by its two points; the pair of the signs above and below it, or left and right."""
    found = {}
    for r in range(len(sheet) + 1):
        for c in range(len(sheet[0]) + 1):
            here = sign_at(sheet, r, c)
            if sign_at(sheet, r - 1, c) != here:
                found[(r, c, 0)] = (sign_at(sheet, r - 1, c), here)
            if sign_at(sheet, r, c - 1) != here:
                found[(r, c, 1)] = (sign_at(sheet, r, c - 1), here)
    return found


def points_of(side):
    r, c, w = side
    return [(r, c), (r + 1, c) if w else (r, c + 1)]


def meeting(sheet):
    """How many unit sides meet at each point."""
    many = {}
    for side in unit_sides(sheet):
        for point in points_of(side):
            many[point] = many.get(point, 0) + 1
    return many


def corner_marks(sheet):
    many = meeting(sheet)
    found = [point for point in many if many[point] > 2]
    return sorted(found) or [min(many)]


def rows_of_sides(sheet):
    """The borders of [2.4]: unit sides put together as long as they meet at a point that is no corner."""
    marks = corner_marks(sheet)
    rows = [{side} for side in unit_sides(sheet)]
    for point in meeting(sheet):
        if point not in marks:
            joined = [row for row in rows if any(point in points_of(side) for side in row)]
            rows = [row for row in rows if row not in joined] + [set().union(*joined)]
    return tuple(sorted(tuple(sorted(row)) for row in rows))


def rounds_about(sheet, rows, borders, letters):
    """For each corner point the sides that are crossed as one goes round it against the clock, begun with the least."""
    shires = {sign: s for s, sign in enumerate("." + letters)}
    number = {side: e for e, row in enumerate(rows) for side in row}
    found = {}
    for r, c in corner_marks(sheet):
        east, north, west, south = ((r, c), (r - 1, c), (r - 1, c - 1), (r, c - 1))
        sides = []
        # To the right of the point one comes from the cell below to that above; then above, to the left, below.
        for side, cell in (((r, c, 0), east), ((r - 1, c, 1), north), ((r, c - 1, 0), west), ((r, c, 1), south)):
            if side in number:
                e = number[side]
                sides.append((e, borders[e].index(shires[sign_at(sheet, *cell)])))
        least = sides.index(min(sides))
        found[tuple(sides[least:] + sides[:least])] = (r, c)
    return found
