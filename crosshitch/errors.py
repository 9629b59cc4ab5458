"""The errors of Crosshitch: one class for each kind of failure."""


class HitchError(ValueError):
    """The base class of every error of this package."""


class InvalidLayout(HitchError):
    """The value is no layout; `index` is that of its first wrong item, None if it is not a list."""

    def __init__(self, index):
        super().__init__(f"not a layout (item {index})")
        self.index = index


class InvalidRows(HitchError):
    """The value is no list of rows; `index` is that of its first wrong item, None if it is not a list."""

    def __init__(self, index):
        super().__init__(f"not a list of rows (item {index})")
        self.index = index


class InvalidRings(HitchError):
    """The value is no list of rings; `index` is that of its first wrong item, None if it is not a list."""

    def __init__(self, index):
        super().__init__(f"not a list of rings (item {index})")
        self.index = index


class InvalidOpens(HitchError):
    """The value is no list of open ends; `index` is that of its first wrong item, None if it is not a list."""

    def __init__(self, index):
        super().__init__(f"not a list of open ends (item {index})")
        self.index = index


class InvalidText(HitchError):
    """The value is no text of that kind; `part` is the number of its first wrong part, None if it is not a string."""

    def __init__(self, part):
        super().__init__(f"not such a text (part {part})")
        self.part = part


class TooMany(HitchError):
    """There are more results than `limit`."""

    def __init__(self, limit):
        super().__init__(f"more than {limit}")
        self.limit = limit


class Farther(HitchError):
    """More moves are lost than may be; `moves` is how many would be left."""

    def __init__(self, moves):
        super().__init__(f"{moves} moves would be left")
        self.moves = moves


class InvalidPieces(HitchError):
    """The value is no number of pieces."""


class InvalidEnd(HitchError):
    """The value is no end of the pieces."""


class InvalidMove(HitchError):
    """The value is no move of the layout."""


class InvalidMoves(HitchError):
    """The value is no shortest list of moves."""


class InvalidSight(HitchError):
    """The value is no sight of as many pieces."""


class InvalidNumber(HitchError):
    """The value is no integer from 0 on, or too great."""


class InvalidCommand(HitchError):
    """The value is no command, or there is no goal for it."""


class NotBetween(HitchError):
    """A layout is not between the two others."""


class MixedWays(HitchError):
    """There are both ways of the one layout and ways of the other one."""


class NotFitting(HitchError):
    """No layout fits the sight at this distance."""


class Clash(HitchError):
    """No layout fits both sights."""


class NothingToUndo(HitchError):
    """There is no move that can be taken back."""
