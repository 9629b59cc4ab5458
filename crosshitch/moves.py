"""Moves: what they are, what they make, and their kinds."""

from crosshitch.basics import check_layout, check_pieces, coupling_of, is_coupling, partner_table
from crosshitch.errors import InvalidMove
from crosshitch.layouts import open_ends, rings_of, rows_of

# The keys: how many rows and rings go away, and how many rows and rings come in their place.
KINDS = {
    (1, 0, 2, 0): "cut",
    (2, 0, 1, 0): "join",
    (0, 1, 1, 0): "open",
    (1, 0, 0, 1): "close",
    (1, 0, 1, 1): "let",
    (1, 1, 1, 0): "take",
    (0, 1, 0, 2): "part",
    (0, 2, 0, 1): "merge",
    (2, 0, 2, 0): "exchange",
    (1, 0, 1, 0): "turn",
    (0, 1, 0, 1): "turn",
}


def _is_list_of_couplings(pieces, value):
    """Return whether any value is an ascending list of couplings."""
    if type(value) != list:
        return False
    if not all([is_coupling(pieces, item) for item in value]):
        return False
    return all([ahead < behind for ahead, behind in zip(value, value[1:])])


def _has_parts_of_move(pieces, value):
    """Return whether any value is a tuple of two ascending lists of couplings."""
    if type(value) != tuple or len(value) != 2:
        return False
    return all([_is_list_of_couplings(pieces, part) for part in value])


def _ends_in(couplings):
    """Return the sorted list of the ends of some couplings."""
    return sorted([end for coupling in couplings for end in coupling])


def _joins_otherwise(cut, joined):
    """Return whether couplings are of the same ends as those that are cut, and none of them stays."""
    if _ends_in(cut) != _ends_in(joined):
        return False
    return not any([coupling in cut for coupling in joined])


def _joins_to_open(cut, joined, partners):
    """Return whether a coupling is of an end of the one that is cut, and of an open end."""
    low, high = joined
    if low in cut:
        return high not in partners
    return high in cut and low not in partners


def _is_move_of(pieces, layout, value):
    """Return whether any value is a move of what is known to be a layout."""
    if not _has_parts_of_move(pieces, value):
        return False
    cut, joined = value
    if not all([coupling in layout for coupling in cut]):
        return False
    partners = partner_table(layout)
    form = (len(cut), len(joined))
    if form == (2, 2):
        return _joins_otherwise(cut, joined)
    if form == (1, 1):
        return _joins_to_open(cut[0], joined[0], partners)
    if form == (0, 1):
        return all([end not in partners for end in joined[0]])
    return form == (1, 0)


def is_move(pieces, layout, value):
    """Return whether any value is a move of the layout."""
    check_pieces(pieces)
    check_layout(pieces, layout)
    return _is_move_of(pieces, layout, value)


def moved(pieces, layout, move):
    """Return the layout that a move makes."""
    check_pieces(pieces)
    check_layout(pieces, layout)
    if not _is_move_of(pieces, layout, move):
        raise InvalidMove("not a move of the layout")
    cut, joined = move
    return sorted([coupling for coupling in layout if coupling not in cut] + joined)


def _joins(ends):
    """Return the moves that only join two of some open ends."""
    return [([], [(low, high)]) for low in ends for high in ends if low < high]


def _transfers(layout, ends):
    """Return the moves that cut one coupling and join one of its ends to one of some open ends."""
    return [([coupling], [coupling_of(end, other)]) for coupling in layout for end in coupling for other in ends]


def _swaps(layout):
    """Return the moves that cut two couplings and join their ends otherwise."""
    swaps = []
    for first in layout:
        for second in layout:
            if first < second:
                low, high = first
                for near, far in (second, second[::-1]):
                    joined = sorted([coupling_of(low, near), coupling_of(high, far)])
                    swaps.append(([first, second], joined))
    return swaps


def moves_of(pieces, layout):
    """Return the ascending list of all moves."""
    ends = open_ends(pieces, layout)
    cuts = [([coupling], []) for coupling in layout]
    return sorted(cuts + _joins(ends) + _transfers(layout, ends) + _swaps(layout))


def count_moves(pieces, layout):
    """Return how many moves there are."""
    check_pieces(pieces)
    check_layout(pieces, layout)
    coupled = len(layout)
    opened = 2 * (pieces - coupled)
    swaps = coupled * (coupled - 1)
    transfers = 2 * coupled * opened
    joins = opened * (opened - 1) // 2
    return coupled + joins + transfers + swaps


def _how_many_only_in(readings, others):
    """Return how many of some readings are not among the others."""
    return len([reading for reading in readings if reading not in others])


def kind_of(pieces, layout, move):
    """Return the word for what a move does to the rows and rings."""
    after = moved(pieces, layout, move)
    rows, new_rows = rows_of(pieces, layout), rows_of(pieces, after)
    rings, new_rings = rings_of(pieces, layout), rings_of(pieces, after)
    # A reading changes if and only if its row or ring does, so those that stay are left out.
    changes = (
        _how_many_only_in(rows, new_rows),
        _how_many_only_in(rings, new_rings),
        _how_many_only_in(new_rows, rows),
        _how_many_only_in(new_rings, rings),
    )
    return KINDS[changes]
