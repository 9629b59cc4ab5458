"""All the numbers of layouts by their distance at once, by the numbers of free, laid and told strands (see strands)."""

from math import comb, factorial

from crosshitch.basics import count_pairings
from crosshitch.few import MOST_FEW, number_of_few


def _rings_of_ways(free, ways, bits):
    """Return the numbers of layouts by how many ring components free strands make, beside so many ways of others.

    They are the digits of an integer to the base 2 ** bits: its powers stand for those of t in the document.
    """
    digits = 1
    for more in range(1, free + 1):
        # The free strands make further ways, or lie in the other ways and in ring components.
        digits = (digits << bits) + 2 * (ways + more - 1) * digits + comb(free, more)
    return digits


def _told_pairs(told, crossed):
    """Return in how many ways the free ends of told strands are joined, by how many pairs there are of two told ones.

    So many of them are crossed: each is joined to a laid strand, and it is not counted here to which one.
    """
    left = told - crossed
    return [
        factorial(told) // (factorial(pairs) * factorial(left - 2 * pairs) << pairs) for pairs in range(left // 2 + 1)
    ]


def _digits(free, laid, told, bits):
    """Return the numbers of layouts by half of what strands add to the score, rounded down, as such an integer."""
    told_pairs = [_told_pairs(told, crossed) for crossed in range(min(laid, told) + 1)]
    # By how many ends are joined in twos: the numbers of ways that laid and told strands make, by those of odd ones.
    joined = [0] * (laid // 2 + told + 1)
    for pairs in range(laid // 2 + 1):
        single = laid - 2 * pairs
        number = factorial(laid) // (factorial(single) * factorial(pairs) << pairs)
        for crossed in range(min(single, told) + 1):
            ways = number * comb(single, crossed)
            for more, many in enumerate(told_pairs[crossed]):
                joined[pairs + crossed + more] += ways * many << bits * (single // 2)
    digits = 0
    for joints, number in enumerate(joined):
        if number > 0:
            digits += number * _rings_of_ways(free, laid + told - joints, bits)
    return digits


def tally(free, laid, told):
    """Return how many layouts there are for each half of what strands can add to the score, rounded down, from 0 on."""
    most = free + laid // 2
    if 2 * free + laid + told <= MOST_FEW:
        return [number_of_few(free, laid, told, 2 * half + (laid & 1)) for half in range(most + 1)]
    bits = count_pairings(2 * free + laid + told).bit_length()
    digits = _digits(free, laid, told, bits)
    return [digits >> bits * half & (1 << bits) - 1 for half in range(most + 1)]
