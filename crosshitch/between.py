"""Layouts between two layouts: counted and listed, the first one behind two of them and the last one ahead of both."""

from crosshitch.basics import check_pieces, checked_partners
from crosshitch.circles import all_partings, around, couplings_of, in_common, parting_of, things_of, turned
from crosshitch.components import components, cost_of, costs_with, distance
from crosshitch.counting import LayoutWeights, weight_of_all
from crosshitch.errors import MixedWays, NotBetween, TooMany

MOST_LAYOUTS = 500


def _lies_between(pieces, one, other, third):
    """Return whether a layout is between two others, by their tables of partners."""
    ahead, behind = distance(pieces, one, third), distance(pieces, third, other)
    return ahead + behind == distance(pieces, one, other)


def is_between(pieces, one, other, third):
    """Return whether a layout is between two others."""
    check_pieces(pieces)
    partners = checked_partners(pieces, one)
    goal = checked_partners(pieces, other)
    return _lies_between(pieces, partners, goal, checked_partners(pieces, third))


def _count(parts, bits):
    """Return the number of layouts between, or their numbers by moves as digits of so many bits (see counting)."""
    alone = costs_with(parts, "ring") + costs_with(parts, "odd")
    return weight_of_all(LayoutWeights(bits), alone, costs_with(parts, "one"), costs_with(parts, "other"))


def count_between(pieces, one, other):
    """Return how many layouts are between two others."""
    check_pieces(pieces)
    partners = checked_partners(pieces, one)
    return _count(components(pieces, partners, checked_partners(pieces, other)), 0)


def counts_between(pieces, one, other):
    """Return how many layouts are between, for each number of moves from `one`, from 0 to the fewest moves."""
    check_pieces(pieces)
    partners = checked_partners(pieces, one)
    parts = components(pieces, partners, checked_partners(pieces, other))
    bits = _count(parts, 0).bit_length()
    digits = _count(parts, bits)
    fewest = sum([cost_of(part) for part in parts])
    return [digits >> bits * moves & (1 << bits) - 1 for moves in range(fewest + 1)]


def _choices_apart(part):
    """Return what layouts between can couple in a component that meets no other one: a list of lists of couplings."""
    things = things_of(part)
    return [couplings_of(things, parting) for parting in all_partings(len(things))]


def _choices_met(part, met):
    """Return what layouts between can couple where a way of `one` and one of `other` meet."""
    things, more = things_of(part), things_of(met)[:-1]
    last = len(things) - 1
    # The things of both ways make one circle, in each of two ways. They meet unless each group is of one way alone, or
    # the outer ends of the way of `one` are in one group: it is not cut then, and the other way changes by itself.
    partings = [
        parting for parting in all_partings(len(things) + len(more))
        if parting[last] > 0 and min(parting[last + 1:]) <= last
    ]
    circles = [things + more, things + turned(more)]
    return [couplings_of(circle, parting) for circle in circles for parting in partings]


def _both(choices, others):
    """Return the lists of couplings of one choice and one of the others together."""
    return [some + more for some in choices for more in others]


def _choices_of_ways(ones, others):
    """Return what layouts between can couple in ways of `one` and ways of `other`, of which any two can meet."""
    if len(ones) == 0:
        found = [[]]
        for part in others:
            found = _both(found, _choices_apart(part))
        return found
    first, rest = ones[0], ones[1:]
    found = _both(_choices_apart(first), _choices_of_ways(rest, others))
    for at, met in enumerate(others):
        found.extend(_both(_choices_met(first, met), _choices_of_ways(rest, others[:at] + others[at + 1:])))
    return found


def all_between(pieces, one, other):
    """Return the ascending list of all layouts between two others."""
    check_pieces(pieces)
    partners = checked_partners(pieces, one)
    parts = components(pieces, partners, checked_partners(pieces, other))
    if _count(parts, 0) > MOST_LAYOUTS:
        raise TooMany(MOST_LAYOUTS)
    found = [[]]
    # Those with one choice come first, while there is but one list.
    for part in sorted(parts, key=cost_of):
        if part[0] in ("ring", "odd"):
            found = _both(found, _choices_apart(part))
    ones, others = [[way for way in parts if way[0] == word] for word in ("one", "other")]
    return sorted([sorted(layout) for layout in _both(found, _choices_of_ways(ones, others))])


def _where_both_meet(pieces, one, other, third, fourth, meet):
    """Return the layout whose groups are those of two layouts between two others, met by a function of two partings."""
    check_pieces(pieces)
    partners = checked_partners(pieces, one)
    goal = checked_partners(pieces, other)
    ends = [checked_partners(pieces, third), checked_partners(pieces, fourth)]
    if not all([_lies_between(pieces, partners, goal, table) for table in ends]):
        raise NotBetween("a layout is not between the two others")
    parts = components(pieces, partners, goal)
    words = [word for word, _ in parts]
    if "one" in words and "other" in words:
        raise MixedWays("there are ways of both layouts")
    layout = []
    for part in parts:
        things = things_of(part)
        partings = [parting_of(part, things, table) for table in ends]
        layout.extend(couplings_of(things, meet(*partings)))
    return sorted(layout)


def first_behind(pieces, one, other, third, fourth):
    """Return the first layout that is behind two layouts between."""
    return _where_both_meet(pieces, one, other, third, fourth, in_common)


def last_ahead(pieces, one, other, third, fourth):
    """Return the last layout that is ahead of two layouts between."""
    return _where_both_meet(pieces, one, other, third, fourth, around)
