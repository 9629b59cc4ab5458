"""Shortest lists of moves: the good moves, how many lists there are, and their numbers."""

from crosshitch.basics import check_number, check_pieces, checked_partners
from crosshitch.components import components, distance, make_move
from crosshitch.counting import ListWeights, weight_of_all
from crosshitch.errors import InvalidMoves, InvalidNumber
from crosshitch.moves import is_move_by_partners
from crosshitch.steps import good_steps, kind_of_part


def good_moves(pieces, one, other):
    """Return the ascending list of the good moves."""
    check_pieces(pieces)
    partners = checked_partners(pieces, one)
    parts = components(pieces, partners, checked_partners(pieces, other))
    return sorted([move for move, _, _ in good_steps(parts)])


def _count_lists(weights, kinds):
    """Return the number of shortest lists by the kinds of the components."""
    ones = sorted([cost for word, cost in kinds if word == "one"])
    others = sorted([cost for word, cost in kinds if word == "other"])
    alone = [cost for word, cost in kinds if word in ("ring", "odd")]
    return weight_of_all(weights, alone, ones, others)


def _kinds_between(pieces, partners, goal):
    """Return the kinds of all components of two tables of partners."""
    return [kind_of_part(part) for part in components(pieces, partners, goal)]


def count_shortest(pieces, one, other):
    """Return the number of the shortest lists."""
    check_pieces(pieces)
    partners = checked_partners(pieces, one)
    goal = checked_partners(pieces, other)
    return _count_lists(ListWeights(), _kinds_between(pieces, partners, goal))


def count_through(pieces, one, other, third):
    """Return the number of the shortest lists that make a layout, or begin or end with it."""
    check_pieces(pieces)
    partners = checked_partners(pieces, one)
    goal = checked_partners(pieces, other)
    middle = checked_partners(pieces, third)
    ahead = _kinds_between(pieces, partners, middle)
    behind = _kinds_between(pieces, middle, goal)
    fewest = sum([cost for _, cost in ahead + behind])
    if fewest > distance(pieces, partners, goal):
        return 0
    weights = ListWeights()
    return _count_lists(weights, ahead) * _count_lists(weights, behind)


def _counted_steps(weights, parts):
    """Return the good moves with these components, each with the number of shortest lists that begin with it."""
    kinds = [kind_of_part(part) for part in parts]
    counts = {}
    counted = []
    for move, gone, new in good_steps(parts):
        if (gone, new) not in counts:
            left = list(kinds)
            for kind in gone:
                left.remove(kind)
            counts[gone, new] = _count_lists(weights, [*left, *new])
        counted.append((move, counts[gone, new]))
    return counted


def nth_shortest(pieces, one, other, index):
    """Return the shortest list with a number, from 0 on, in ascending sequence."""
    check_pieces(pieces)
    partners = checked_partners(pieces, one)
    goal = checked_partners(pieces, other)
    check_number(index)
    weights = ListWeights()
    if index >= _count_lists(weights, _kinds_between(pieces, partners, goal)):
        raise InvalidNumber("there are not so many shortest lists")
    moves = []
    # There are good moves until the goal is reached.
    while steps := sorted(_counted_steps(weights, components(pieces, partners, goal))):
        for move, number in steps:
            if index < number:
                moves.append(move)
                break
            index -= number
        make_move(partners, moves[-1])
    return moves


def _lists_ahead(weights, parts, move):
    """Return how many shortest lists begin with a lesser move than this one, None unless it is a good one."""
    steps = _counted_steps(weights, parts)
    if move not in [good for good, _ in steps]:
        return None
    return sum([number for good, number in steps if good < move])


def shortest_index(pieces, one, other, value):
    """Return the number of a shortest list, from 0 on, in ascending sequence."""
    check_pieces(pieces)
    partners = checked_partners(pieces, one)
    goal = checked_partners(pieces, other)
    if type(value) != list or len(value) != distance(pieces, partners, goal):
        raise InvalidMoves("not a shortest list of moves")
    weights = ListWeights()
    index = 0
    for move in value:
        ahead = None
        if is_move_by_partners(pieces, partners, move):
            ahead = _lists_ahead(weights, components(pieces, partners, goal), move)
        if ahead is None:
            raise InvalidMoves("not a shortest list of moves")
        index += ahead
        make_move(partners, move)
    return index
