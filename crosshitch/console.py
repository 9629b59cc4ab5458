"""The console: a yard and a goal that are changed and asked by commands."""

from crosshitch.between import counts_between
from crosshitch.errors import InvalidCommand
from crosshitch.lists import count_shortest
from crosshitch.moves import count_moves
from crosshitch.overlay import fewest_moves
from crosshitch.shells import counts_by_moves
from crosshitch.texts import read_layout, read_move, show_layout, show_move
from crosshitch.yards import GoalYard, Yard

MOST_DIGITS = 30


def _is_number(word):
    """Return whether a word is an integer from 0 on, without zeros in front and with not too many digits."""
    if not (word.isascii() and word.isdigit()) or len(word) > MOST_DIGITS:
        return False
    return word == "0" or not word.startswith("0")


def _in_a_row(numbers):
    """Return the text of some numbers."""
    return " ".join([str(number) for number in numbers])


class Console:
    """A yard, at first of one piece without couplings, and a goal, at first none."""

    def __init__(self):
        self._yard = Yard(1, [])
        self._goal = None

    def execute(self, command):
        """Perform a command; return a string."""
        if not isinstance(command, str):
            raise InvalidCommand("a command is a string")
        word, space, text = command.partition(" ")
        if space:
            return self._changed(word, text)
        if word == "undo":
            self._yard.undo()
            return "ok"
        if self._goal is not None and word in ("left", "good", "lists", "between"):
            return self._told_of_goal(word)
        return self._told(word)

    def _changed(self, word, text):
        """Perform a command that has something behind its word."""
        pieces = self._yard.pieces
        if word == "move":
            return self._yard.move(read_move(pieces, self._yard.layout, text))
        if word == "layout":
            self._yard = Yard(pieces, read_layout(pieces, text))
        elif word == "goal":
            self._goal = read_layout(pieces, text)
        elif word == "pieces" and _is_number(text):
            self._yard = Yard(int(text), [])
            self._goal = None
        else:
            raise InvalidCommand("no such command")
        return "ok"

    def _told(self, word):
        """Return what the layout tells."""
        pieces, layout = self._yard.pieces, self._yard.layout
        if word == "show":
            return show_layout(pieces, layout)
        if word == "count":
            return str(count_moves(pieces, layout))
        if word == "shells":
            return _in_a_row(counts_by_moves(pieces, layout))
        raise InvalidCommand("no such command, or no goal for it")

    def _told_of_goal(self, word):
        """Return what the layout and the goal tell."""
        pieces, layout = self._yard.pieces, self._yard.layout
        if word == "left":
            return str(fewest_moves(pieces, layout, self._goal))
        if word == "lists":
            return str(count_shortest(pieces, layout, self._goal))
        if word == "between":
            return _in_a_row(counts_between(pieces, layout, self._goal))
        move = GoalYard(pieces, layout, self._goal).next_good()
        return "none" if move is None else show_move(pieces, layout, move)
