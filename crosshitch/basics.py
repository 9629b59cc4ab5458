"""Ends and couplings, and the checks of the parameters that many functions share."""

from crosshitch.errors import InvalidEnd, InvalidLayout, InvalidPieces

MOST_PIECES = 60


def is_integer(value):
    """Return whether any value is an integer: True and False are none."""
    return isinstance(value, int) and not isinstance(value, bool)


def is_end(pieces, value):
    """Return whether any value is an end, which is also a number of a piece with a sign."""
    return is_integer(value) and value != 0 and -pieces <= value <= pieces


def is_coupling(pieces, value):
    """Return whether any value is a coupling of two ends."""
    if type(value) != tuple or len(value) != 2:
        return False
    low, high = value
    return is_end(pieces, low) and is_end(pieces, high) and low < high


def all_ends(pieces):
    """Return the ascending list of all ends."""
    return [end for end in range(-pieces, pieces + 1) if end != 0]


def coupling_of(end, other):
    """Return the coupling of two ends, whichever of them is less."""
    return (min(end, other), max(end, other))


def partner_table(layout):
    """Return a dict from each coupled end to the end with which it is coupled."""
    partners = {}
    for low, high in layout:
        partners[low] = high
        partners[high] = low
    return partners


def first_wrong_coupling(pieces, items):
    """Return the index of the first item of a list that keeps it from being a layout, None for a layout."""
    taken = set()
    for index, item in enumerate(items):
        if not is_coupling(pieces, item):
            return index
        if index > 0 and item <= items[index - 1]:
            return index
        low, high = item
        if low in taken or high in taken:
            return index
        taken.add(low)
        taken.add(high)
    return None


def check_pieces(pieces):
    """Raise InvalidPieces unless the value is a number of pieces."""
    if not is_integer(pieces) or pieces < 1 or pieces > MOST_PIECES:
        raise InvalidPieces(f"the number of pieces is an integer from 1 to {MOST_PIECES}")


def check_layout(pieces, layout):
    """Raise InvalidLayout unless the value is a layout."""
    if type(layout) != list:
        raise InvalidLayout(None)
    index = first_wrong_coupling(pieces, layout)
    if index is not None:
        raise InvalidLayout(index)


def check_end(pieces, end):
    """Raise InvalidEnd unless the value is an end."""
    if not is_end(pieces, end):
        raise InvalidEnd("an end is the number of a piece, or its negative")
