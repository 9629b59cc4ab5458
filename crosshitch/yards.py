"""Yards: layouts that are changed move by move."""

from crosshitch.basics import check_number, check_pieces, checked_partners, couplings_in, layout_in
from crosshitch.components import components, distance, make_move
from crosshitch.errors import Farther, InvalidMove, NothingToUndo
from crosshitch.moves import is_move_by_partners, make_named_move
from crosshitch.steps import least_good_move


class Yard:
    """A layout that is changed by moves, which can be taken back."""

    def __init__(self, pieces, layout):
        check_pieces(pieces)
        self._partners = checked_partners(pieces, layout)
        self._pieces = pieces
        self._made = []

    @property
    def pieces(self):
        """The number of pieces."""
        return self._pieces

    @property
    def layout(self):
        """The layout as it is now."""
        return layout_in(self._pieces, self._partners)

    @property
    def made(self):
        """The moves that are not taken back."""
        return [(list(cut), list(joined)) for cut, joined in self._made]

    def __len__(self):
        """Return the number of the moves that are not taken back."""
        return len(self._made)

    def __eq__(self, other):
        """Return whether any value is a yard of the same class with the same layout."""
        if not isinstance(other, Yard):
            return False
        return type(self) is type(other) and self._pieces == other._pieces and self._partners == other._partners

    def _tried(self, move):
        """Return the kind of a move, and the table of partners that it makes."""
        if not is_move_by_partners(self._pieces, self._partners, move):
            raise InvalidMove("not a move of the layout")
        after = list(self._partners)
        return make_named_move(after, move), after

    def _keep(self, move, after):
        """Take it that a move is made, and that it made a table of partners."""
        cut, joined = move
        self._made.append((list(cut), list(joined)))
        self._partners = after

    def move(self, move):
        """Make a move; return its kind."""
        kind, after = self._tried(move)
        self._keep(move, after)
        return kind

    def undo(self):
        """Take back the last move that is not taken back."""
        if len(self._made) == 0:
            raise NothingToUndo("no move is left that can be taken back")
        cut, joined = self._made.pop()
        make_move(self._partners, (joined, cut))

    def preview(self, *moves):
        """Return the kinds of some moves, made one after another; the yard stays as it is."""
        twin = self.twin()
        return [twin.move(move) for move in moves]

    def twin(self):
        """Return a yard in the same state, which can take back the same moves."""
        twin = Yard(self._pieces, self.layout)
        twin._made = list(self._made)
        return twin


class GoalYard(Yard):
    """A yard with a goal, in which only some moves may be lost on the way there."""

    def __init__(self, pieces, layout, goal, *, spare=0):
        super().__init__(pieces, layout)
        self._goal_partners = checked_partners(pieces, goal)
        check_number(spare)
        self._goal = list(goal)
        self._spare = spare
        self._left = distance(len(layout), self._partners, goal)
        # What was left and what was spare ahead of each move that is not taken back.
        self._ahead = []

    @property
    def goal(self):
        """The layout to which the moves shall lead."""
        return list(self._goal)

    @property
    def spare(self):
        """How many moves may still be lost."""
        return self._spare

    @property
    def left(self):
        """The number of the fewest moves to the goal."""
        return self._left

    def __eq__(self, other):
        """Return whether any value is such a yard with the same layout, the same goal and as many moves to spare."""
        if not isinstance(other, GoalYard) or self._goal != other._goal or self._spare != other._spare:
            return False
        return type(self) is type(other) and self._pieces == other._pieces and self._partners == other._partners

    def move(self, move):
        """Make a move, unless more are lost than may be; return its kind."""
        kind, after = self._tried(move)
        left = distance(couplings_in(after), after, self._goal)
        lost = left + 1 - self._left
        if lost > self._spare:
            raise Farther(left)
        self._ahead.append((self._left, self._spare))
        self._left = left
        self._spare -= lost
        self._keep(move, after)
        return kind

    def undo(self):
        """Take back the last move that is not taken back, and what was lost with it."""
        super().undo()
        self._left, self._spare = self._ahead.pop()

    def preview(self, *moves):
        """Return the kinds of some moves, made one after another; a lost one counts for those behind it."""
        return super().preview(*moves)

    def twin(self):
        """Return a yard in the same state, which can take back the same moves."""
        twin = GoalYard(self._pieces, self.layout, self._goal, spare=self._spare)
        twin._made = list(self._made)
        twin._ahead = list(self._ahead)
        return twin

    def next_good(self):
        """Return the least good move, None at the goal."""
        return least_good_move(components(self._pieces, self._partners, self._goal_partners))
