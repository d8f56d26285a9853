"""Sheets of letters: their judge, the land of a sheet, sheets turned about, and sheets as texts.

Points and cells are pairs (row, column).
"""

from foxborders.errors import BadText
from foxborders.land import begin_of, corners

_SEA = "."
_LETTERS = "abcdefghijklmnopqrstuvwxyz"
_SIGNS = ".abcdefghijklmnopqrstuvwxyz"
_BESIDE = ((0, 1), (1, 0), (0, -1), (-1, 0))
_NEAR = ((0, 1), (1, 0), (0, -1), (-1, 0), (1, 1), (1, -1), (-1, 1), (-1, -1))
# Headings are the numbers of these steps from point to point: down, to the right, up, to the left. Each is behind a
# turn to the left from the one ahead.
_STEPS = ((1, 0), (0, 1), (-1, 0), (0, -1))
# For each heading, the cell ahead on the left of a point, from the point's own one; the cell ahead on the right is
# that of the heading one less, which is the last one for heading 0.
_AHEAD_LEFT = ((0, 0), (-1, 0), (-1, -1), (0, -1))


def _has_form(value):
    """Whether it is a tuple of texts, not (), all of one length from 1 on."""
    if not isinstance(value, tuple) or value == ():
        return False
    if not all([isinstance(row, str) for row in value]):
        return False
    return value[0] != "" and all([len(row) == len(value[0]) for row in value])


def _odd_sign(sheet):
    """The least row and column with a sign that no sheet has, None if there is none."""
    for r, row in enumerate(sheet):
        for c, sign in enumerate(row):
            if sign not in _SIGNS:
                return (r, c)
    return None


def _with_margin(sheet):
    """The sheet with one row and column of sea on all sides: by it all of the outside hangs together."""
    wide = _SEA * (len(sheet[0]) + 2)
    return (wide,) + tuple([_SEA + row + _SEA for row in sheet]) + (wide,)


def _cells(sheet):
    """The dict with the sign of each cell of the sheet."""
    return {(r, c): sign for r, row in enumerate(sheet) for c, sign in enumerate(row)}


def _pieces_begun(cells, steps):
    """The list of the signs of all pieces of cells of one sign that hang together by such steps, one for each."""
    begun = []
    seen = {}
    for start, sign in cells.items():
        if start not in seen:
            begun.append(sign)
            seen[start] = True
            todo = [start]
            while todo:
                r, c = todo.pop()
                for down, right in steps:
                    cell = (r + down, c + right)
                    if cell not in seen and cells.get(cell) == sign:
                        seen[cell] = True
                        todo.append(cell)
    return begun


def _holes(cells, letter):
    """How many pieces, by near steps, are within a letter that is in one piece from side to side.

    Cells, less pairs of them side by side, and squares of four come to 1 less the holes (Euler).
    """
    mine = [cell for cell, sign in cells.items() if sign == letter]
    sides = 0
    squares = 0
    for r, c in mine:
        right = cells[(r, c + 1)] == letter
        below = cells[(r + 1, c)] == letter
        sides += int(right) + int(below)
        squares += int(right and below and cells[(r + 1, c + 1)] == letter)
    return 1 - (len(mine) - sides + squares)


def judge_sheet(value):
    """None for a right sheet, else its first fault."""
    if not _has_form(value):
        return ("form",)
    odd = _odd_sign(value)
    if odd is not None:
        return ("sign",) + odd
    letters = letters_of(value)
    if letters == "":
        return ("empty",)
    cells = _cells(_with_margin(value))
    begun = _pieces_begun(cells, _BESIDE)
    for sign in _SEA + letters:
        if begun.count(sign) > 1:
            return ("apart", sign)
    land = {cell: True for cell, sign in cells.items() if sign != _SEA}
    if len(_pieces_begun(land, _NEAR)) > 1:
        return ("round", _SEA)
    for letter in letters:
        if _holes(cells, letter) > 0:
            return ("round", letter)
    return None


def is_sheet(value):
    """Whether it is a right sheet."""
    return judge_sheet(value) is None


def letters_of(sheet):
    """The text of the letters of a sheet, ascending."""
    return "".join([letter for letter in _LETTERS if any([letter in row for row in sheet])])


def _sign_of(sheet, cell):
    """The sign of any cell, also of one outside."""
    r, c = cell
    if 0 <= r < len(sheet) and 0 <= c < len(sheet[0]):
        return sheet[r][c]
    return _SEA


def shire_of_cell(sheet, r, c):
    """The shire of a cell, any row and column."""
    sign = _sign_of(sheet, (r, c))
    return 0 if sign == _SEA else letters_of(sheet).index(sign) + 1


def _unit_sides(sheet):
    """The ascending list of all unit sides of a sheet."""
    sides = []
    for r in range(len(sheet) + 1):
        for c in range(len(sheet[0]) + 1):
            here = _sign_of(sheet, (r, c))
            if _sign_of(sheet, (r - 1, c)) != here:
                sides.append((r, c, 0))
            if _sign_of(sheet, (r, c - 1)) != here:
                sides.append((r, c, 1))
    return sides


def _corner_set(sides):
    """The dict of True at each point that is a corner, of all unit sides."""
    meeting = {}
    for r, c, w in sides:
        for point in ((r, c), (r + w, c + 1 - w)):
            meeting[point] = meeting.get(point, 0) + 1
    found = {point: True for point, many in meeting.items() if many > 2}
    # One letter alone has no such point: the least point of its round stands for one.
    return found if found else {min(list(meeting)): True}


def _sign_ahead(sheet, point, heading):
    """The sign of the cell ahead on the left, as one stands at a point."""
    down, right = _AHEAD_LEFT[heading]
    return _sign_of(sheet, (point[0] + down, point[1] + right))


def _heading_behind(sheet, sign, point, heading):
    """The heading with which one goes on at a point, with cells of a sign on the left and others on the right."""
    # To the left first: where cells of the sign lie slantwise one stays with the cell along which one came.
    if _sign_ahead(sheet, point, heading) != sign:
        return (heading + 1) % 4
    if _sign_ahead(sheet, point, heading - 1) != sign:
        return heading
    return (heading + 3) % 4


def _side_ahead(point, heading):
    """The unit side along which one goes from a point."""
    down, right = _STEPS[heading]
    return (point[0] + min(down, 0), point[1] + min(right, 0), abs(down))


def _begins(sheet, sides):
    """For each sign a corner at which a walk along its borders can begin, with the heading; of all unit sides."""
    found = {}
    marked = _corner_set(sides)
    for point in marked:
        for heading in range(4):
            sign = _sign_ahead(sheet, point, heading)
            if sign != _sign_ahead(sheet, point, heading - 1):
                found[sign] = (point, heading)
    return found


def _rows_along(sheet, sign, begin, marked):
    """The rows of unit sides along a sign, as one walks: pairs of the ascending sides and of the point at the end."""
    rows = []
    sides = []
    point, heading = begin
    while not rows or (point, heading) != begin:
        sides.append(_side_ahead(point, heading))
        down, right = _STEPS[heading]
        point = (point[0] + down, point[1] + right)
        heading = _heading_behind(sheet, sign, point, heading)
        if point in marked:
            rows.append((tuple(sorted(sides)), point))
            sides = []
    return rows


def _walks(sheet):
    """The list with, for each shire, its rows of unit sides."""
    sides = _unit_sides(sheet)
    marked = _corner_set(sides)
    begins = _begins(sheet, sides)
    return [_rows_along(sheet, sign, begins[sign], marked) for sign in _SEA + letters_of(sheet)]


def border_sides(sheet):
    """The tuple, for each border, of the ascending tuple of its unit sides."""
    # Each row has two shires; it is met from both.
    return tuple(sorted({row for rows in _walks(sheet) for row, _ in rows}))


def _begun_with_least(turn):
    """The turn, begun with its least number."""
    least = turn.index(min(turn))
    return tuple(turn[least:] + turn[:least])


def land_of_sheet(sheet):
    """The land of a right sheet."""
    numbers = {row: e for e, row in enumerate(border_sides(sheet))}
    turns = [[numbers[row] for row, _ in rows] for rows in _walks(sheet)]
    pairs = [[] for _ in numbers]
    for s, turn in enumerate(turns):
        for e in turn:
            pairs[e].append(s)
    lengths = [len(row) for row in numbers]
    borders = [tuple(pair) for pair in pairs]
    return (len(turns), tuple(borders), tuple([_begun_with_least(turn) for turn in turns]), tuple(lengths))


def corner_points(sheet):
    """The tuple with, for each corner number of the land of a sheet, the point of this corner."""
    land = land_of_sheet(sheet)
    numbers = {row: e for e, row in enumerate(border_sides(sheet))}
    # Where a walk comes at the end of a border, with a shire on the left.
    points = {(s, numbers[row]): point for s, rows in enumerate(_walks(sheet)) for row, point in rows}
    return tuple([points[(begin_of(land, sides[0]), sides[0][0])] for sides in corners(land)])


def mirrored_sheet(sheet):
    """The rows, each from right to left."""
    return tuple([row[::-1] for row in sheet])


def turned_sheet(sheet):
    """The rows turned by a quarter against the clock."""
    return tuple(["".join([row[c] for row in sheet]) for c in reversed(range(len(sheet[0])))])


def blown_sheet(sheet, k):
    """Each sign k times in its row, and each row k times."""
    return tuple(["".join([sign * k for sign in row]) for row in sheet for _ in range(k)])


def with_letter(sheet, one, other):
    """The sheet with the letter other for each one."""
    return tuple([row.replace(one, other) for row in sheet])


def sheet_text(sheet):
    """The rows, parted by line feeds."""
    return "\n".join(sheet)


def read_sheet(text):
    """The tuple of the rows that a text tells."""
    if not isinstance(text, str):
        raise BadText(0)
    rows = text.split("\n")
    at = 0
    for row in rows:
        for sign in row[:len(rows[0])]:
            if sign not in _SIGNS:
                raise BadText(at)
            at += 1
        # A sign too many, or a line feed or the end too early; the first row is as long as it likes, but not "".
        if len(row) != len(rows[0]) or row == "":
            raise BadText(at)
        at += 1
    return tuple(rows)
