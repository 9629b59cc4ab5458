"""Layouts by their distance from a layout: how many there are, and their numbers."""

from math import gcd

from crosshitch.basics import check_number, check_pieces, checked_partners
from crosshitch.components import distance
from crosshitch.errors import InvalidNumber
from crosshitch.few import MOST_FEW, NUMBERS
from crosshitch.numbering import index_of_few, index_with, nth_of_few, nth_with
from crosshitch.strands import StrandCounts, Strands
from crosshitch.tallies import tally


def counts_by_moves(pieces, layout):
    """Return how many layouts have each distance from a layout, from 0 to the greatest distance."""
    check_pieces(pieces)
    checked_partners(pieces, layout)
    numbers = tally(len(layout), 2 * (pieces - len(layout)), 0)
    # What the score has is twice as many moves less.
    numbers.reverse()
    return numbers


def mean_moves(pieces, layout):
    """Return the mean of all distances from a layout, as a tuple of two integers without a common divisor above 1."""
    counts = counts_by_moves(pieces, layout)
    total = sum([moves * number for moves, number in enumerate(counts)])
    common = gcd(total, sum(counts))
    return (total // common, sum(counts) // common)


def nth_at(pieces, layout, moves, index):
    """Return the layout with a number, from 0 on, among those with a distance from a layout, ascending by partners."""
    check_pieces(pieces)
    partners = checked_partners(pieces, layout)
    check_number(moves)
    check_number(index)
    score = 2 * (pieces - moves)
    unknown = list(range(-pieces, pieces + 1))
    if 2 * pieces <= MOST_FEW:
        key = 1000 * len(layout) + 200 * (pieces - len(layout)) + score
        if score < 0 or index >= NUMBERS.get(key, 0):
            raise InvalidNumber("there are not so many layouts with this distance")
        return nth_of_few(partners, key, unknown, index)
    strands = Strands(partners, score)
    counts = StrandCounts(2 * pieces)
    if index >= counts.with_score(strands.numbers, score):
        raise InvalidNumber("there are not so many layouts with this distance")
    return nth_with(strands, counts, unknown, index)


def index_at(pieces, layout, other):
    """Return the number of another layout among those with its distance from a layout, ascending by partners."""
    check_pieces(pieces)
    partners = checked_partners(pieces, layout)
    found = checked_partners(pieces, other)
    score = 2 * (pieces - distance(len(layout), partners, other))
    unknown = list(range(-pieces, pieces + 1))
    if 2 * pieces <= MOST_FEW:
        return index_of_few(partners, 1000 * len(layout) + 200 * (pieces - len(layout)) + score, unknown, found)
    counts = StrandCounts(2 * pieces)
    return index_with(Strands(partners, score), counts, unknown, found)
