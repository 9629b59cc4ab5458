"""Moves: what they are, what they make, and their kinds."""

from crosshitch.basics import check_pieces, checked_partners, coupling_of, is_coupling, opens_in
from crosshitch.errors import InvalidMove

# How many couplings are cut and how many are joined, for each of the four forms.
FORMS = ((2, 2), (1, 1), (1, 0), (0, 1))


def _are_ascending_couplings(pieces, items):
    """Return whether a list of up to two items is an ascending list of couplings."""
    for item in items:
        if not is_coupling(pieces, item):
            return False
    return len(items) < 2 or items[0] < items[1]


def _has_form(pieces, value):
    """Return whether any value is a tuple of two ascending lists with as many couplings as a move may have."""
    if type(value) != tuple or len(value) != 2:
        return False
    cut, joined = value
    if type(cut) != list or type(joined) != list or (len(cut), len(joined)) not in FORMS:
        return False
    return _are_ascending_couplings(pieces, cut) and _are_ascending_couplings(pieces, joined)


def _joins_otherwise(cut, joined):
    """Return whether two couplings are of the same ends as those that are cut, and none of them stays."""
    (low, high), (near, far) = cut
    # The least end is the same one in both, so it tells which of the two ways of joining is to be compared.
    return joined == [(low, near), coupling_of(high, far)] or joined == [(low, far), coupling_of(high, near)]


def _joins_to_open(cut, joined, partners):
    """Return whether a coupling is of an end of the one that is cut, and of an open end."""
    low, high = joined
    if low in cut:
        return not partners[high]
    return high in cut and not partners[low]


def is_move_by_partners(pieces, partners, value):
    """Return whether any value is a move of the layout with a table of partners."""
    if not _has_form(pieces, value):
        return False
    cut, joined = value
    for low, high in cut:
        if partners[low] != high:
            return False
    if len(joined) == 0:
        return True
    if len(joined) == 2:
        return _joins_otherwise(cut, joined)
    if len(cut) == 1:
        return _joins_to_open(cut[0], joined[0], partners)
    low, high = joined[0]
    return not partners[low] and not partners[high]


def is_move(pieces, layout, value):
    """Return whether any value is a move of the layout."""
    check_pieces(pieces)
    return is_move_by_partners(pieces, checked_partners(pieces, layout), value)


def checked_move(pieces, layout, move):
    """Return the table of partners of the layout; raise an error unless all three parameters are right."""
    check_pieces(pieces)
    partners = checked_partners(pieces, layout)
    if not is_move_by_partners(pieces, partners, move):
        raise InvalidMove("not a move of the layout")
    return partners


def moved(pieces, layout, move):
    """Return the layout that a move makes."""
    checked_move(pieces, layout, move)
    cut, joined = move
    after = layout + joined
    for coupling in cut:
        after.remove(coupling)
    return sorted(after)


def _joins(ends):
    """Return the ascending list of the moves that only join two of some open ends."""
    return [([], [(low, high)]) for at, low in enumerate(ends) for high in ends[at + 1:]]


def _transfers(coupling, ends):
    """Return the ascending list of the moves that cut a coupling and join one of its ends to one of some open ends."""
    joined = sorted([coupling_of(end, other) for end in coupling for other in ends])
    return [([coupling], [new]) for new in joined]


def _swaps(coupling, others):
    """Return the ascending list of the moves that cut a coupling and one of some greater ones, and join otherwise."""
    swaps = []
    low, high = coupling
    for other in others:
        near, far = other
        # The lesser ends of the couplings are low and near, and low is the least of all.
        swaps.append(([coupling, other], [(low, near), coupling_of(high, far)]))
        swaps.append(([coupling, other], [(low, far), coupling_of(high, near)]))
    return swaps


def moves_of(pieces, layout):
    """Return the ascending list of all moves."""
    check_pieces(pieces)
    partners = checked_partners(pieces, layout)
    ends = opens_in(pieces, partners)
    moves = _joins(ends)
    for at, coupling in enumerate(layout):
        moves.append(([coupling], []))
        moves.extend(_transfers(coupling, ends))
        moves.extend(_swaps(coupling, layout[at + 1:]))
    return moves


def count_moves(pieces, layout):
    """Return how many moves there are."""
    check_pieces(pieces)
    checked_partners(pieces, layout)
    coupled = len(layout)
    opened = 2 * (pieces - coupled)
    swaps = coupled * (coupled - 1)
    transfers = 2 * coupled * opened
    joins = opened * (opened - 1) // 2
    return coupled + joins + transfers + swaps


def _far_end(partners, end):
    """Return the other outer end of the row that begins with an open end."""
    end = -end
    while partners[end]:
        end = -partners[end]
    return end


def _kind_of_swap(partners, cut, joined):
    """Return the kind of a move that cuts two couplings and joins their ends otherwise; both are cut already."""
    (low, high), (near, far) = cut
    across, back = _far_end(partners, low), _far_end(partners, high)
    if across in (near, far) or back in (near, far):
        # They lie in one row or ring; what stands between two of their ends comes off if these two are joined.
        in_ring = across in (near, far) and back in (near, far)
        start, end = (low, across) if across in (near, far) else (high, back)
        if coupling_of(start, end) in joined:
            return "part" if in_ring else "let"
        return "turn"
    rings = (1 if across == high else 0) + (1 if _far_end(partners, near) == far else 0)
    return ("exchange", "take", "merge")[rings]


def _kind_of_transfer(partners, cut, joined):
    """Return the kind of a move that cuts a coupling and joins one of its ends to an open end; it is cut already."""
    low, high = cut
    left = high if low in joined else low
    end = low + high - left
    other = joined[0] + joined[1] - end
    across = _far_end(partners, end)
    if across == left:
        return "take"
    if across == other:
        return "let"
    return "turn" if _far_end(partners, left) == other else "exchange"


def _kind_when_cut(partners, cut, joined):
    """Return the word for a move whose couplings are cut already."""
    if len(cut) == 2:
        return _kind_of_swap(partners, cut, joined)
    if len(cut) == 0:
        low, high = joined[0]
        return "close" if _far_end(partners, low) == high else "join"
    low, high = cut[0]
    if len(joined) == 0:
        return "open" if _far_end(partners, low) == high else "cut"
    return _kind_of_transfer(partners, cut[0], joined[0])


def make_named_move(partners, move):
    """Change a table of partners as a move does; return the word for what it does to the rows and rings."""
    cut, joined = move
    for low, high in cut:
        partners[low] = partners[high] = 0
    # In what is left, each end that the move concerns begins a row: it depends on where this row ends what they become.
    kind = _kind_when_cut(partners, cut, joined)
    for low, high in joined:
        partners[low] = high
        partners[high] = low
    return kind


def kind_of(pieces, layout, move):
    """Return the word for what a move does to the rows and rings."""
    return make_named_move(checked_move(pieces, layout, move), move)
