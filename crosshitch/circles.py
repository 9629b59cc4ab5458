"""Partings of the things in the circle of a component into groups that do not cross, and the layouts that they tell.

A thing is a coupling of `other`, or an outer end that is open in `other`, or the gap between the outer ends of a way of
`other`; it has a back and a front, in the sequence in which couplings of the two layouts lead on. A circle is a tuple
of two lists: the backs of its things and their fronts, with 0 for an end that is not there. A parting is a tuple that
gives each thing the number of the first thing in its group.
"""

PARTINGS_OF_FEW = (
    ((),),
    ((0,),),
    ((0, 1), (0, 0)),
    ((0, 1, 2), (0, 1, 0), (0, 1, 1), (0, 0, 2), (0, 0, 0)),
)


def circle_of(part):
    """Return the circle of a component; the gap is the last thing in it."""
    word, ends = part
    if word == "ring":
        # The couplings of `one` come first in a ring component, and lead from one thing to the next.
        return ends[1::2], [*ends[2::2], ends[0]]
    if word == "odd":
        return ends[::2], [*ends[1::2], 0]
    if word == "one":
        return [0, *ends[1::2]], [*ends[::2], 0]
    return [*ends[::2], 0], [*ends[1::2], 0]


def couplings_of(circle, parting):
    """Return the couplings of the layout that a parting tells."""
    backs, fronts = circle
    # The front of the last thing of each group so far, at the number of its first thing.
    last = list(fronts)
    pairs = []
    for number, group in enumerate(parting):
        if group < number:
            pairs.append((last[group], backs[number]))
            last[group] = fronts[number]
            last[number] = 0
    # The last thing of each group leads back to the first one.
    pairs = pairs + list(zip(last, backs))
    return [(front, back) if front < back else (back, front) for front, back in pairs if front and back]


def all_partings(number):
    """Return all partings of so many things."""
    if number < len(PARTINGS_OF_FEW):
        return list(PARTINGS_OF_FEW[number])
    # Each unfinished parting has the groups that may go on: each one lies within those that stand ahead of it here.
    unfinished = [((), [])]
    for thing in range(number):
        longer = []
        for parting, groups in unfinished:
            longer.append(((*parting, thing), [*groups, thing]))
            for at, group in enumerate(groups):
                longer.append(((*parting, group), groups[:at + 1]))
        unfinished = longer
    return [parting for parting, _ in unfinished]


def regrouped(part, labels):
    """Return the couplings of the layout in which those things of a component are in one group that have equal labels.

    A list tells the label of each end; that of the gap stands at the index 0.
    """
    word, ends = part
    if len(ends) == 1:
        return []
    if len(ends) == 2 and word == "ring":
        return [(ends[0], ends[1])]
    backs, fronts = circle_of(part)
    first, last = {}, {}
    pairs = []
    for back, front in zip(backs, fronts):
        label = labels[back or front]
        if label in last:
            pairs.append((last[label], back))
        else:
            first[label] = back
        last[label] = front
    # The last thing of each group leads back to the first one.
    for label, back in first.items():
        pairs.append((last[label], back))
    return [(front, back) if front < back else (back, front) for front, back in pairs if front and back]
