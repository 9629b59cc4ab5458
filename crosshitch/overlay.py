"""Two layouts laid over one another: their components, and the fewest moves from the one to the other."""

from crosshitch.basics import check_pieces, checked_partners, coupling_of
from crosshitch.components import components, distance, make_move
from crosshitch.moves import is_move_by_partners


def components_of(pieces, one, other):
    """Return the ascending list of the components."""
    check_pieces(pieces)
    partners = checked_partners(pieces, one)
    return sorted(components(pieces, partners, checked_partners(pieces, other)))


def fewest_moves(pieces, one, other):
    """Return the number of the fewest moves."""
    check_pieces(pieces)
    partners = checked_partners(pieces, one)
    checked_partners(pieces, other)
    return distance(len(one), partners, other)


def _move_that_joins(partners, coupling):
    """Return the move that makes a coupling, and joins the ends that it leaves over."""
    left = [end for end in coupling if partners[end]]
    cut = sorted([coupling_of(end, partners[end]) for end in left])
    joined = [coupling]
    if len(left) == 2:
        low, high = left
        joined.append(coupling_of(partners[low], partners[high]))
    return (cut, sorted(joined))


def shortest(pieces, one, other):
    """Return a shortest list of moves."""
    check_pieces(pieces)
    partners = checked_partners(pieces, one)
    goal = checked_partners(pieces, other)
    moves = []
    # Each coupling of `other` that is made comes off as a ring component, so that a move is never lost.
    for low, high in other:
        if partners[low] != high:
            move = _move_that_joins(partners, (low, high))
            make_move(partners, move)
            moves.append(move)
    # What is left over now is coupled where `other` has open ends.
    for end in range(-pieces, pieces + 1):
        if partners[end] and not goal[end]:
            move = ([coupling_of(end, partners[end])], [])
            make_move(partners, move)
            moves.append(move)
    return moves


def _leads_by_partners(pieces, partners, goal, value):
    """Return whether a list is one of moves that lead from one layout to another; the first table is changed."""
    for move in value:
        if not is_move_by_partners(pieces, partners, move):
            return False
        make_move(partners, move)
    return partners == goal


def leads(pieces, one, other, value):
    """Return whether any value is a list of moves that leads from `one` to `other`."""
    check_pieces(pieces)
    partners = checked_partners(pieces, one)
    goal = checked_partners(pieces, other)
    return type(value) == list and _leads_by_partners(pieces, partners, goal, value)


def is_shortest(pieces, one, other, value):
    """Return whether any value is a shortest list of moves."""
    check_pieces(pieces)
    partners = checked_partners(pieces, one)
    goal = checked_partners(pieces, other)
    if type(value) != list or len(value) != distance(len(one), partners, other):
        return False
    return _leads_by_partners(pieces, partners, goal, value)
