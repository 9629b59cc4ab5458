"""Ends and couplings, and the checks of the parameters that many functions share.

A table of partners is a list: `partners[end]` is the end with which an end is coupled, 0 if it is open. The ends below
0 stand behind the others there, where Python finds them, since it counts such an index from the back. At the index 0,
which is no end, stands 1, so that it is never taken for an open end.
"""

from crosshitch.errors import InvalidEnd, InvalidLayout, InvalidNumber, InvalidPieces

MOST_PIECES = 60


def is_integer(value):
    """Return whether any value is an integer: True and False are none."""
    return isinstance(value, int) and not isinstance(value, bool)


def are_integers(one, other):
    """Return whether two values of any kind are integers."""
    # Nearly all of them are plain ones, for which this is the shorter question.
    if type(one) == int and type(other) == int:
        return True
    return is_integer(one) and is_integer(other)


def is_end(pieces, value):
    """Return whether any value is an end, which is also a number of a piece with a sign."""
    return is_integer(value) and value != 0 and -pieces <= value <= pieces


def is_coupling(pieces, value):
    """Return whether any value is a coupling of two ends."""
    if type(value) != tuple or len(value) != 2:
        return False
    low, high = value
    return are_integers(low, high) and -pieces <= low < high <= pieces and low != 0 and high != 0


def coupling_of(end, other):
    """Return the coupling of two ends, whichever of them is less."""
    return (end, other) if end < other else (other, end)


def all_ends(pieces):
    """Return the ascending list of all ends."""
    return [*range(-pieces, 0), *range(1, pieces + 1)]


def opens_in(pieces, partners):
    """Return the ascending list of the open ends in a table of partners."""
    return [end for end in range(-pieces, pieces + 1) if not partners[end]]


def partners_or_wrong(pieces, items):
    """Return the table of partners and None for a list that is a layout, else None and the index of its wrong item."""
    partners = [0] * (2 * pieces + 1)
    partners[0] = 1
    ahead = -pieces - 1
    for index, item in enumerate(items):
        if type(item) != tuple or len(item) != 2:
            return None, index
        low, high = item
        # The plain question comes first: asking `are_integers` for each item would take longer than all the rest.
        if (type(low) != int or type(high) != int) and not are_integers(low, high):
            return None, index
        # No end stands twice, so the couplings ascend if their lesser ends do.
        if not ahead < low < high <= pieces or partners[low] or partners[high]:
            return None, index
        partners[low] = high
        partners[high] = low
        ahead = low
    return partners, None


def check_pieces(pieces):
    """Raise InvalidPieces unless the value is a number of pieces."""
    if not is_integer(pieces) or pieces < 1 or pieces > MOST_PIECES:
        raise InvalidPieces(f"the number of pieces is an integer from 1 to {MOST_PIECES}")


def checked_partners(pieces, layout):
    """Return the table of partners; raise InvalidLayout unless the value is a layout."""
    if type(layout) != list:
        raise InvalidLayout(None)
    partners, wrong = partners_or_wrong(pieces, layout)
    if wrong is not None:
        raise InvalidLayout(wrong)
    return partners


def check_end(pieces, end):
    """Raise InvalidEnd unless the value is an end."""
    if not is_end(pieces, end):
        raise InvalidEnd("an end is the number of a piece, or its negative")


def check_number(number):
    """Raise InvalidNumber unless the value is an integer from 0 on."""
    if not is_integer(number) or number < 0:
        raise InvalidNumber("a number is an integer from 0 on")
