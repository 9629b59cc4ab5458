"""Partings of the things in the circle of a component into groups that do not cross, and the layouts that they tell.

A thing is a coupling of `other`, or an outer end that is open in `other`, or the gap between the outer ends of a way of
`other`; it has a back and a front, in the sequence in which couplings of the two layouts lead on. A circle is a tuple
of two lists: the backs of its things and their fronts, with 0 for an end that is not there. A parting is a tuple that
gives each thing the number of the following one in its group; the last one has that of the first one.
"""

PARTINGS_OF_FEW = (
    ((),),
    ((0,),),
    ((0, 1), (1, 0)),
    ((0, 1, 2), (1, 0, 2), (2, 1, 0), (0, 2, 1), (1, 2, 0)),
    (
        (0, 1, 2, 3), (3, 1, 2, 0), (0, 3, 2, 1), (0, 1, 3, 2), (2, 1, 0, 3), (2, 1, 3, 0), (0, 2, 1, 3), (3, 2, 1, 0),
        (0, 2, 3, 1), (1, 0, 2, 3), (1, 3, 2, 0), (1, 0, 3, 2), (1, 2, 0, 3), (1, 2, 3, 0),
    ),
)


def circle_of(part):
    """Return the circle of a component; the gap is the last thing in it."""
    word, ends = part
    if word == "ring":
        # The couplings of `one` come first in a ring component, and lead from one thing to the next.
        return ends[1::2], [*ends[2::2], ends[0]]
    if word == "odd":
        return ends[::2], [*ends[1::2], 0]
    if word == "one":
        return [0, *ends[1::2]], [*ends[::2], 0]
    return [*ends[::2], 0], [*ends[1::2], 0]


def couplings_of(circle, parting):
    """Return the couplings of the layout that a parting tells."""
    backs, fronts = circle
    couplings = []
    for front, following in zip(fronts, parting):
        back = backs[following]
        if front and back:
            couplings.append((front, back) if front < back else (back, front))
    return couplings


def all_partings(number):
    """Return the tuple of all partings of so many things."""
    if number < len(PARTINGS_OF_FEW):
        return PARTINGS_OF_FEW[number]
    # Each unfinished parting has the first and the last thing of each group that may go on: such a group lies within
    # those that stand ahead of it here.
    unfinished = [((), [])]
    for thing in range(number):
        longer = []
        for parting, groups in unfinished:
            longer.append(((*parting, thing), [*groups, (thing, thing)]))
            for at, (first, last) in enumerate(groups):
                joined = (*parting[:last], thing, *parting[last + 1:], first)
                longer.append((joined, [*groups[:at], (first, thing)]))
        unfinished = longer
    return tuple([parting for parting, _ in unfinished])


def first_in_group(parting, thing):
    """Return the first thing in the group of a thing."""
    while parting[thing] > thing:
        thing = parting[thing]
    return parting[thing]


def regrouped(part, labels):
    """Return the couplings of the layout in which those things of a component are in one group that have equal labels.

    A list tells the label of each end; that of the gap stands at the index 0.
    """
    word, ends = part
    if len(ends) == 1:
        return []
    if len(ends) == 2 and word == "ring":
        return [(ends[0], ends[1])]
    backs, fronts = circle_of(part)
    first, last = {}, {}
    pairs = []
    for back, front in zip(backs, fronts):
        label = labels[back or front]
        if label in last:
            pairs.append((last[label], back))
        else:
            first[label] = back
        last[label] = front
    # The last thing of each group leads back to the first one.
    for label, back in first.items():
        pairs.append((last[label], back))
    return [(front, back) if front < back else (back, front) for front, back in pairs if front and back]
