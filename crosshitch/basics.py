"""Ends and couplings, and the checks of the parameters that many functions share.

A table of partners is a list: `partners[end]` is the end with which an end is coupled, 0 if it is open. The ends below
0 stand behind the others there, where Python finds them, since it counts such an index from the back. At the index 0,
which is no end, stands 1, so that it is never taken for an open end.
"""

from crosshitch.errors import InvalidEnd, InvalidLayout, InvalidNumber, InvalidPieces

MOST_PIECES = 60


def is_integer(value):
    """Return whether any value is an integer: True and False are none."""
    return isinstance(value, int) and not isinstance(value, bool)


def are_integers(one, other):
    """Return whether two values of any kind are integers."""
    # Nearly all of them are plain ones, for which this is the shorter question.
    if type(one) == int and type(other) == int:
        return True
    return is_integer(one) and is_integer(other)


def is_end(pieces, value):
    """Return whether any value is an end, which is also a number of a piece with a sign."""
    return is_integer(value) and value != 0 and -pieces <= value <= pieces


def is_coupling(pieces, value):
    """Return whether any value is a coupling of two ends."""
    if type(value) != tuple or len(value) != 2:
        return False
    low, high = value
    return are_integers(low, high) and -pieces <= low < high <= pieces and low != 0 and high != 0


def coupling_of(end, other):
    """Return the coupling of two ends, whichever of them is less."""
    return (end, other) if end < other else (other, end)


def layout_in(pieces, partners):
    """Return the layout with a table of partners."""
    return [(end, partners[end]) for end in range(-pieces, pieces + 1) if end and partners[end] and end < partners[end]]


def opens_in(pieces, partners):
    """Return the ascending list of the open ends in a table of partners."""
    return [end for end in range(-pieces, pieces + 1) if not partners[end]]


def count_pairings(ends):
    """Return in how many ways some of so many ends can be coupled in twos, so that the others are open."""
    fewer, count = 1, 1
    # A further end is open, or it is coupled with one of those that were there ahead of it.
    for ahead in range(1, ends):
        fewer, count = count, count + ahead * fewer
    return count


def couplings_in(partners):
    """Return how many couplings there are in a table of partners."""
    # The index 0 is the only place too many.
    return (len(partners) - partners.count(0)) // 2


def check_pieces(pieces):
    """Raise InvalidPieces unless the value is a number of pieces."""
    if type(pieces) is not int and not is_integer(pieces) or pieces < 1 or pieces > MOST_PIECES:
        raise InvalidPieces(f"the number of pieces is an integer from 1 to {MOST_PIECES}")


def partners_or_wrong(pieces, items):
    """Return the table of partners for a list that is a layout, else the index of its first wrong item."""
    partners = [0] * (2 * pieces + 1)
    partners[0] = 1
    ahead = -pieces - 1
    for item in items:
        if type(item) is tuple and len(item) == 2:
            low, high = item
            # The plain question comes first: asking `are_integers` for each item would take longer than all the rest.
            if type(low) is int and type(high) is int or are_integers(low, high):
                # No end stands twice, so the couplings ascend if their lesser ends do.
                if ahead < low < high <= pieces and not partners[low] and not partners[high]:
                    partners[low] = high
                    partners[high] = ahead = low
                    continue
        # All items ahead of it are couplings.
        return couplings_in(partners)
    return partners


def checked_partners(pieces, layout):
    """Return the table of partners; raise InvalidLayout unless the value is a layout."""
    if type(layout) is not list:
        raise InvalidLayout(None)
    partners = partners_or_wrong(pieces, layout)
    if type(partners) is int:
        raise InvalidLayout(partners)
    return partners


def check_end(pieces, end):
    """Raise InvalidEnd unless the value is an end."""
    if not is_end(pieces, end):
        raise InvalidEnd("an end is the number of a piece, or its negative")


def check_number(number):
    """Raise InvalidNumber unless the value is an integer from 0 on."""
    if type(number) is not int and not is_integer(number) or number < 0:
        raise InvalidNumber("a number is an integer from 0 on")
