"""Layouts between two layouts: counted and listed, the first one behind two of them and the last one ahead of both."""

from crosshitch.basics import check_pieces, checked_partners
from crosshitch.circles import all_partings, circle_of, couplings_of, first_in_group, regrouped
from crosshitch.components import checked_costs, components, cost_of, distance, rings_and_ways
from crosshitch.counting import LayoutWeights, layouts_apart, weight_of_all
from crosshitch.errors import MixedWays, NotBetween, TooMany

MOST_LAYOUTS = 500


def is_between(pieces, one, other, third):
    """Return whether a layout is between two others."""
    check_pieces(pieces)
    partners = checked_partners(pieces, one)
    goal = checked_partners(pieces, other)
    checked_partners(pieces, third)
    rings_ahead, ways_ahead = rings_and_ways(partners, third)
    rings_behind, ways_behind = rings_and_ways(goal, third)
    rings, ways = rings_and_ways(partners, other)
    # These are the distances (see components) without the couplings of `one`, which count on both sides.
    return ways_ahead - rings_ahead + len(other) + ways_behind - rings_behind == ways - rings


def _count_layouts(alone, ones, others):
    """Return how many layouts are between by the costs of ways of `one`, of ways of `other`, and of all others."""
    if ones and others:
        return weight_of_all(LayoutWeights(0), alone, ones, others)
    return layouts_apart(alone + ones + others)


def count_between(pieces, one, other):
    """Return how many layouts are between two others."""
    check_pieces(pieces)
    alone, ones, others = checked_costs(pieces, checked_partners(pieces, one), other)
    return _count_layouts(alone, ones, others)


def counts_between(pieces, one, other):
    """Return how many layouts are between, for each number of moves from `one`, from 0 to the fewest moves."""
    check_pieces(pieces)
    alone, ones, others = checked_costs(pieces, checked_partners(pieces, one), other)
    fewest = sum(alone) + sum(ones) + sum(others)
    # A component of the cost d has less than 4 ** d layouts, and two ways that meet less than twice as many together.
    some, more = len(ones), len(others)
    pairings = (1 + max(some, more).bit_length()) * min(some, more)
    bits = 2 * fewest + pairings + 1
    digits = weight_of_all(LayoutWeights(bits), alone, ones, others)
    return [digits >> bits * moves & (1 << bits) - 1 for moves in range(fewest + 1)]


def _choices_apart(part):
    """Return what layouts between can couple in a component that meets no other one: a list of lists of couplings."""
    circle = circle_of(part)
    return [couplings_of(circle, parting) for parting in all_partings(len(circle[0]))]


def _choices_met(part, met):
    """Return what layouts between can couple where a way of `one` and one of `other` meet."""
    backs, fronts = circle_of(part)
    # Without the gap, which is the last thing.
    more_backs, more_fronts = [ends[:-1] for ends in circle_of(met)]
    last = len(backs) - 1
    # The things of both ways make one circle, in each of two ways. They meet unless each group is of one way alone, or
    # the outer ends of the way of `one` are in one group: it is not cut then, and the other way changes by itself.
    partings = [
        parting for parting in all_partings(len(backs) + len(more_backs))
        if first_in_group(parting, last) > 0 and max(parting[:last + 1]) > last
    ]
    circles = [
        (backs + more_backs, fronts + more_fronts), (backs + more_fronts[::-1], fronts + more_backs[::-1]),
    ]
    return [couplings_of(circle, parting) for circle in circles for parting in partings]


def _both(choices, others):
    """Return the lists of couplings of one choice and one of the others together."""
    return [some + more for some in choices for more in others]


def _choices_of_ways(ones, others):
    """Return what layouts between can couple in ways of `one` and ways of `other`, of which any two can meet."""
    if len(ones) == 0:
        found = [[]]
        for part in others:
            found = _both(found, _choices_apart(part))
        return found
    first, rest = ones[0], ones[1:]
    found = _both(_choices_apart(first), _choices_of_ways(rest, others))
    for at, met in enumerate(others):
        found.extend(_both(_choices_met(first, met), _choices_of_ways(rest, others[:at] + others[at + 1:])))
    return found


def all_between(pieces, one, other):
    """Return the ascending list of all layouts between two others."""
    check_pieces(pieces)
    partners = checked_partners(pieces, one)
    parts = components(pieces, partners, checked_partners(pieces, other))
    alone, ones, others = checked_costs(pieces, partners, other)
    if _count_layouts(alone, ones, others) > MOST_LAYOUTS:
        raise TooMany(MOST_LAYOUTS)
    # What both layouts couple in the same way stays.
    found = [[(ends[0], ends[1]) for word, ends in parts if word == "ring" and len(ends) == 2]]
    for part in parts:
        if part[0] in ("ring", "odd") and cost_of(part) > 0:
            found = _both(found, _choices_apart(part))
    here, there = [[way for way in parts if way[0] == word] for word in ("one", "other")]
    return sorted([sorted(layout) for layout in _both(found, _choices_of_ways(here, there))])


def _checked_tables(pieces, one, other, third, fourth):
    """Return the tables of partners of two layouts, and of two that are between them; raise the errors for them."""
    check_pieces(pieces)
    tables = [checked_partners(pieces, layout) for layout in (one, other, third, fourth)]
    partners, goal = tables[:2]
    rings, ways = rings_and_ways(partners, other)
    fewest = len(one) - rings + ways
    for layout in (third, fourth):
        if distance(len(one), partners, layout) + distance(len(other), goal, layout) > fewest:
            raise NotBetween("a layout is not between the two others")
    # There are as many ways of `one` more as it has couplings more.
    if ways > 0 and ways + len(one) > len(other):
        raise MixedWays("there are ways of both layouts")
    return tables


def _labels(pieces, partners, goal):
    """Return a list that tells in which component of two tables of partners each end lies.

    All ways of the second layout have the label 0, and so has the index 0: it stands for the gap between outer ends.
    """
    labels = [0] * len(partners)
    for label, (word, ends) in enumerate(components(pieces, partners, goal), start=1):
        if word != "other":
            for end in ends:
                labels[end] = label
    return labels


def _in_common(pieces, goal, partners, more):
    """Return the layout whose groups are what the groups of two layouts have in common, by tables of partners."""
    labels = _labels(pieces, more, goal)
    layout = []
    # Each group of the first one is a component of it and the goal, and leads from thing to thing in their sequence.
    for part in components(pieces, partners, goal):
        layout.extend(regrouped(part, labels))
    return sorted(layout)


def first_behind(pieces, one, other, third, fourth):
    """Return the first layout that is behind two layouts between."""
    _, goal, partners, more = _checked_tables(pieces, one, other, third, fourth)
    return _in_common(pieces, goal, partners, more)


def last_ahead(pieces, one, other, third, fourth):
    """Return the last layout that is ahead of two layouts between."""
    # On the way back from `other` to `one` it is the first one behind both.
    goal, _, partners, more = _checked_tables(pieces, one, other, third, fourth)
    return _in_common(pieces, goal, partners, more)
