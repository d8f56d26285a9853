"""A house: one board to which deeds are done, and what is told of its land."""

from foxborders.chase import bell_move, fox_move
from foxborders.kept import done, new_board, redone, short_way, undone, width_now
from foxborders.tables import greatest_table
from foxborders.verdicts import good_joins, verdict


class House:
    """A house with the board of a land."""

    def __init__(self, land):
        # Boards are exchanged, never changed: one that was told stays as it is.
        self._board = new_board(land)

    def board(self):
        """The board that stands."""
        return dict(self._board)

    def do(self, deed):
        """Does a deed, and returns how many deeds the log has then."""
        self._board = done(self._board, deed)
        return len(self.deeds())

    def undo(self):
        """Takes the last deed back, and returns how many deeds the log has then."""
        self._board = undone(self._board)
        return len(self.deeds())

    def redo(self):
        """Does the deed that was taken back last, and returns how many deeds the log has then."""
        self._board = redone(self._board)
        return len(self.deeds())

    def deeds(self):
        """The log."""
        return self._board["log"]

    def twin(self):
        """A house with an equal board that goes its own way."""
        other = House(self._board["first"])
        other._board = self.board()
        return other

    def settle(self):
        """Joins neighbours till two shires are left, and returns how many deeds that takes."""
        way = short_way(self._board)
        for deed in way:
            self.do(deed)
        return len(way)

    def land(self):
        """The land of the board."""
        return self._board["land"]

    def width(self):
        """The least width of the land."""
        return width_now(self._board)

    def plan(self):
        """A plan of the land of the least width."""
        return verdict(self.land())[1]

    def paper(self):
        """A paper that shows that no plan of the land is less wide."""
        return verdict(self.land())[2]

    def joins(self):
        """The good joins of the land."""
        return good_joins(self.land())

    def table(self, k):
        """The greatest table for k, None if there is none."""
        return greatest_table(self.land(), k)

    def bell(self, k, c, s):
        """The border that the bell takes best, None if it never catches a fox there."""
        return bell_move(self.land(), k, (c, s))

    def fox(self, k, c, s, e):
        """The shire to which the fox goes best when the bell takes border e, None if it is caught."""
        return fox_move(self.land(), k, (c, s), e)
