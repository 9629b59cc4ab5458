"""Layouts by their distance from a layout: how many there are, and their numbers."""

from math import comb, factorial, gcd

from crosshitch.basics import all_ends, check_number, check_pieces, checked_partners
from crosshitch.components import distance
from crosshitch.errors import InvalidNumber
from crosshitch.layouts import count_layouts
from crosshitch.strands import StrandCounts, Strands


def _rings_of_ways(couplings, ways, bits):
    """Return the numbers of layouts by how many ring components some couplings lie in, beside so many ways without any.

    They are the digits of an integer to the base 2 ** bits: its powers stand for those of t in the document.
    """
    digits = 1
    for more in range(1, couplings + 1):
        # The couplings form ways of the layout, or lie in the other ways and in ring components.
        digits = (digits << bits) + 2 * (ways + more - 1) * digits + comb(couplings, more)
    return digits


def _counts(pieces, layout):
    """Return how many layouts have each distance from a layout, from 0 to the number of pieces."""
    couplings = len(layout)
    opened = 2 * (pieces - couplings)
    bits = count_layouts(pieces).bit_length()
    digits = 0
    for pairs in range(opened // 2 + 1):
        odd = opened - 2 * pairs
        number = factorial(opened) // (factorial(odd) * factorial(pairs) << pairs)
        digits += number * _rings_of_ways(couplings, odd + pairs, bits) << bits * (odd // 2)
    # A ring component saves a move, and so do two odd ways.
    return [digits >> bits * (pieces - moves) & (1 << bits) - 1 for moves in range(pieces + 1)]


def counts_by_moves(pieces, layout):
    """Return how many layouts have each distance from a layout, from 0 to the greatest distance."""
    check_pieces(pieces)
    checked_partners(pieces, layout)
    counts = _counts(pieces, layout)
    while counts[-1] == 0:
        counts.pop()
    return counts


def mean_moves(pieces, layout):
    """Return the mean of all distances from a layout, as a tuple of two integers without a common divisor above 1."""
    counts = counts_by_moves(pieces, layout)
    total = sum([moves * number for moves, number in enumerate(counts)])
    common = gcd(total, sum(counts))
    return (total // common, sum(counts) // common)


def _strands(pieces, partners, moves):
    """Return the strands of a layout and of another one with a distance from it, of which nothing else is known."""
    bits = count_layouts(pieces).bit_length()
    return Strands(StrandCounts(bits), partners, 2 * (pieces - moves))


def nth_at(pieces, layout, moves, index):
    """Return the layout with a number, from 0 on, among those with a distance from a layout, ascending by partners."""
    check_pieces(pieces)
    partners = checked_partners(pieces, layout)
    check_number(moves)
    check_number(index)
    strands = _strands(pieces, partners, moves)
    if index >= strands.how_many():
        raise InvalidNumber("there are not so many layouts with this distance")
    found = []
    unknown = all_ends(pieces)
    while unknown:
        end = unknown[0]
        for partner in sorted([0, *unknown[1:]]):
            number = strands.how_many_with(end, partner)
            if index < number:
                break
            index -= number
        strands.tell(end, partner)
        if partner != 0:
            found.append((end, partner))
        unknown = [left for left in unknown if left not in (end, partner)]
    return found


def index_at(pieces, layout, other):
    """Return the number of another layout among those with its distance from a layout, ascending by partners."""
    check_pieces(pieces)
    partners = checked_partners(pieces, layout)
    found = checked_partners(pieces, other)
    strands = _strands(pieces, partners, distance(pieces, partners, found))
    index = 0
    unknown = all_ends(pieces)
    while unknown:
        end = unknown[0]
        for partner in sorted([0, *unknown[1:]]):
            if partner < found[end]:
                index += strands.how_many_with(end, partner)
        strands.tell(end, found[end])
        unknown = [left for left in unknown if left not in (end, found[end])]
    return index
