"""Components of two layouts, told by the tables of partners of both (see basics)."""

from crosshitch.basics import are_integers
from crosshitch.errors import InvalidLayout


def _way(end, one, other, seen):
    """Return the way with an outer end, the lesser one if there are two; mark the ends behind it as seen."""
    # From a coupling of the first table one of the second leads on, and so by turns.
    first, second, word = (one, other, "one") if one[end] else (other, one, "other")
    ends = [end]
    while first[end]:
        end = first[end]
        seen[end] = True
        ends.append(end)
        if not second[end]:
            return (word, ends)
        end = second[end]
        seen[end] = True
        ends.append(end)
    return ("odd", ends[::-1] if word == "one" else ends)


def _ring(first, one, other, seen):
    """Return the ring component from one of its ends on, along the coupling of `one`; mark its ends as seen."""
    ends = []
    end = first
    while not seen[end]:
        here = one[end]
        ends.append(end)
        ends.append(here)
        seen[end] = seen[here] = True
        end = other[here]
    return ("ring", ends)


def components(pieces, one, other):
    """Return the components as tuples (word, ends), each with its ends as `components_of` gives them."""
    found, coupled = [], []
    seen = [False] * (2 * pieces + 1)
    # 0 is no end.
    seen[0] = True
    for end in range(-pieces, pieces + 1):
        if not seen[end]:
            here, there = one[end], other[end]
            if here == there:
                found.append(("ring", [end, here]) if here else ("odd", [end]))
                seen[here] = True
            elif here and there:
                coupled.append(end)
            else:
                found.append(_way(end, one, other, seen))
    # What is left when all ways are known are ring components.
    for end in coupled:
        if not seen[end]:
            found.append(_ring(end, one, other, seen))
    return found


def cost_of(component):
    """Return the cost of a component."""
    word, ends = component
    return len(ends) // 2 - 1 if word == "ring" else len(ends) // 2


def rings_and_ways(partners, couplings):
    """Return how many ring components there are, and how many ways of the second one of two layouts.

    The first one is told by its table of partners, the second one by its couplings.
    """
    rings, ways = 0, 0
    # For each outer end of what the couplings lead along, the other outer end, or 0 if that one is open in the first
    # layout. What is written at the index 0, which is no end, is never read.
    across = list(partners)
    for low, high in couplings:
        here, there = across[low], across[high]
        if here == high:
            rings += 1
        elif here == there:
            ways += 1
        else:
            across[here] = there
            across[there] = here
    return rings, ways


def distance(number, partners, couplings):
    """Return the number of the fewest moves from one layout to another, told by its couplings.

    Of the first one the number of its couplings is passed, and its table of partners.
    """
    rings, ways = rings_and_ways(partners, couplings)
    return number - rings + ways


def _ways_left(across, passed, alone):
    """Return the costs of the ways of the first layout that `checked_costs` leaves; add those of odd ways to a list."""
    ones = []
    for there, cost in zip(across, passed):
        if there:
            ones.append(cost + 1)
        elif cost and there == 0:
            alone.append(cost)
    # Each way of the first layout is told by both of its outer ends.
    return sorted(ones)[::2] if ones else ones


def checked_costs(pieces, across, layout):
    """Return the costs above 0 of all components, as three lists; raise InvalidLayout unless the value is a layout.

    The first list is of the ring components and the odd ways, the second one of the ways of the layout whose table of
    partners is passed, and the third one of the ways of the layout that is checked. The table is changed.
    """
    if type(layout) is not list:
        raise InvalidLayout(None)
    alone, others = [], []
    # What the couplings lead along is told by its outer ends: `across` keeps the other outer end, or 0 if that one is
    # open in the first layout, and `passed` the number of couplings. None tells that an end is coupled already.
    passed = [0] * len(across)
    across[0] = None
    ahead = -pieces - 1
    for item in layout:
        here = there = None
        # They are checked as `partners_or_wrong` does it: to ask that one, too, would take longer.
        if type(item) is tuple and len(item) == 2:
            low, high = item
            if (type(low) is int and type(high) is int or are_integers(low, high)) and ahead < low < high <= pieces:
                here, there = across[low], across[high]
        if here is None or there is None:
            raise InvalidLayout(across.count(None) // 2)
        across[low] = across[high] = None
        ahead = low
        cost = passed[low] + passed[high] + 1
        if here == there:
            others.append(cost)
        elif here != high:
            if here:
                across[here] = there
                passed[here] = cost
            if there:
                across[there] = here
                passed[there] = cost
        elif cost > 1:
            # Both ends of the ring component told all of its couplings.
            alone.append(cost // 2)
    ones = _ways_left(across, passed, alone)
    return alone, ones, others


def make_move(partners, move):
    """Change a table of partners as a move does."""
    cut, joined = move
    for low, high in cut:
        partners[low] = partners[high] = 0
    for low, high in joined:
        partners[low] = high
        partners[high] = low
