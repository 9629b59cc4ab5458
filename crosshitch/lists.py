"""Shortest lists of moves: the good moves, how many lists there are, and their numbers."""

from crosshitch.basics import check_number, check_pieces, checked_partners
from crosshitch.components import components, checked_costs, distance, make_move
from crosshitch.counting import ListWeights, lists_apart, weight_of_all
from crosshitch.errors import InvalidMoves, InvalidNumber
from crosshitch.moves import is_move_by_partners
from crosshitch.steps import good_steps, kind_of_part


def good_moves(pieces, one, other):
    """Return the ascending list of the good moves."""
    check_pieces(pieces)
    partners = checked_partners(pieces, one)
    parts = components(pieces, partners, checked_partners(pieces, other))
    return sorted([move for move, _, _ in good_steps(parts)])


def _count_lists(alone, ones, others):
    """Return the number of shortest lists by the costs of ways of `one`, of ways of `other`, and of all others."""
    if ones and others:
        return weight_of_all(ListWeights(), alone, ones, others)
    return lists_apart(alone + ones + others)


def count_shortest(pieces, one, other):
    """Return the number of the shortest lists."""
    check_pieces(pieces)
    alone, ones, others = checked_costs(pieces, checked_partners(pieces, one), other)
    return _count_lists(alone, ones, others)


def count_through(pieces, one, other, third):
    """Return the number of the shortest lists that make a layout, or begin or end with it."""
    check_pieces(pieces)
    partners = checked_partners(pieces, one)
    checked_partners(pieces, other)
    middle = checked_partners(pieces, third)
    ahead, behind = distance(len(one), partners, third), distance(len(third), middle, other)
    if ahead + behind > distance(len(one), partners, other):
        return 0
    alone, ones, others = checked_costs(pieces, partners, third)
    ahead = _count_lists(alone, ones, others)
    alone, ones, others = checked_costs(pieces, middle, other)
    return ahead * _count_lists(alone, ones, others)


def _count_by_kinds(weights, kinds):
    """Return the number of shortest lists by the kinds of the components."""
    ones = [cost for word, cost in kinds if word == "one"]
    others = [cost for word, cost in kinds if word == "other"]
    alone = [cost for word, cost in kinds if word in ("ring", "odd")]
    return weight_of_all(weights, alone, ones, others)


def _counted_steps(weights, parts):
    """Return the good moves with these components, each with the number of shortest lists that begin with it."""
    kinds = [kind_of_part(part) for part in parts]
    counts = {}
    counted = []
    for move, gone, new in good_steps(parts):
        if (gone, new) not in counts:
            left = list(kinds)
            for kind in gone:
                left.remove(kind)
            counts[gone, new] = _count_by_kinds(weights, [*left, *new])
        counted.append((move, counts[gone, new]))
    return counted


def nth_shortest(pieces, one, other, index):
    """Return the shortest list with a number, from 0 on, in ascending sequence."""
    check_pieces(pieces)
    partners = checked_partners(pieces, one)
    goal = checked_partners(pieces, other)
    check_number(index)
    weights = ListWeights()
    alone, ones, others = checked_costs(pieces, list(partners), other)
    if index >= _count_lists(alone, ones, others):
        raise InvalidNumber("there are not so many shortest lists")
    moves = []
    # There are good moves until the goal is reached.
    while steps := sorted(_counted_steps(weights, components(pieces, partners, goal))):
        for move, number in steps:
            if index < number:
                moves.append(move)
                break
            index -= number
        make_move(partners, moves[-1])
    return moves


def _lists_ahead(weights, parts, move):
    """Return how many shortest lists begin with a lesser move than this one, None unless it is a good one."""
    steps = _counted_steps(weights, parts)
    if move not in [good for good, _ in steps]:
        return None
    return sum([number for good, number in steps if good < move])


def shortest_index(pieces, one, other, value):
    """Return the number of a shortest list, from 0 on, in ascending sequence."""
    check_pieces(pieces)
    partners = checked_partners(pieces, one)
    goal = checked_partners(pieces, other)
    if type(value) != list or len(value) != distance(len(one), partners, other):
        raise InvalidMoves("not a shortest list of moves")
    weights = ListWeights()
    index = 0
    for move in value:
        ahead = None
        if is_move_by_partners(pieces, partners, move):
            ahead = _lists_ahead(weights, components(pieces, partners, goal), move)
        if ahead is None:
            raise InvalidMoves("not a shortest list of moves")
        index += ahead
        make_move(partners, move)
    return index
