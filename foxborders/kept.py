"""Boards: a land that deeds change, with what was done to it and what was taken back."""

from foxborders.changes import joined, shrunk
from foxborders.errors import BadDeed, NothingDone
from foxborders.land import is_number, with_length
from foxborders.verdicts import best_joins, least_width, told_for


def _board(land, first, log, back):
    """The board with these fields."""
    return {"land": land, "first": first, "log": log, "back": back}


def new_board(land):
    """The board on which nothing is done yet."""
    return _board(land, land, (), ())


def _is_border(land, value):
    """Whether it is the number of a border of the land."""
    return is_number(value) and 0 <= value < len(land[1])


def _land_behind(land, value):
    """The land behind a deed, None if it is no deed for this land."""
    if not isinstance(value, tuple) or len(value) not in (2, 3) or not _is_border(land, value[1]):
        return None
    word, e = value[:2]
    if len(value) == 2:
        if word == "join":
            return joined(land, e)
        return shrunk(land, e) if word == "shrink" else None
    length = value[2]
    if word != "length" or not is_number(length) or length < 1 or length == land[3][e]:
        return None
    return with_length(land, e, length)


def is_deed(board, value):
    """Whether it is a deed for the board."""
    return _land_behind(board["land"], value) is not None


def done(board, deed):
    """The board behind a deed."""
    land = _land_behind(board["land"], deed)
    if land is None:
        raise BadDeed()
    return _board(land, board["first"], board["log"] + (deed,), ())


def boards(board):
    """The list of the boards ahead of each deed of the log, and of the one behind them all, with nothing taken back."""
    told = [new_board(board["first"])]
    for deed in board["log"]:
        told.append(done(told[-1], deed))
    return told


def undone(board):
    """The board ahead of its last deed, which is taken back."""
    log = board["log"]
    if log == ():
        raise NothingDone()
    ahead = boards(board)[-2]
    return _board(ahead["land"], board["first"], log[:-1], board["back"] + log[-1:])


def redone(board):
    """The board behind the deed that was taken back last."""
    back = board["back"]
    if back == ():
        raise NothingDone()
    behind = done(board, back[-1])
    return _board(behind["land"], board["first"], behind["log"], back[:-1])


def width_now(board):
    """The least width of the board's land."""
    return least_width(board["land"])


def told_now(board, k):
    """A plan of the board's land of a width below k, or a paper for k."""
    return told_for(board["land"], k)


def widths_of(board):
    """The tuple of the least widths of the lands ahead of each deed, and of the one behind them all."""
    return tuple([width_now(told) for told in boards(board)])


def all_deeds(board, m):
    """The ascending tuple of all deeds of the board, those of lengths with the length m alone."""
    many = len(board["land"][1])
    joins = [("join", e) for e in range(many)]
    lengths = [("length", e, m) for e in range(many)]
    shrinks = [("shrink", e) for e in range(many)]
    return tuple([deed for deed in joins + lengths + shrinks if is_deed(board, deed)])


def short_way(board):
    """The tuple of the joins by which the board's land comes to two shires, the least width never rising."""
    return tuple([("join", e) for e in best_joins(board["land"])])
