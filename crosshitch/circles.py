"""Partings of the things in the circle of a component into groups that do not cross, and the layouts that they tell.

A thing is a pair of ends (back, front), in the sequence in which couplings of the two layouts lead on: a coupling of
`other`, or an outer end that is open in `other`, or the gap between the outer ends of a way of `other`. None stands for
an end that is not there. A parting is a list that gives each thing the number of the first thing in its group.
"""

from crosshitch.basics import coupling_of


def things_of(part):
    """Return the list of the things in the circle of a component; the gap is the last one."""
    word, ends = part
    line = ends
    if word == "ring":
        # The couplings of `one` come first in a ring component, and lead from one thing to the next.
        line = [*ends[1:], ends[0]]
    elif word == "odd":
        line = [*ends, None]
    elif word == "one":
        line = [None, *ends, None]
    else:
        line = [*ends, None, None]
    return [(line[at], line[at + 1]) for at in range(0, len(line), 2)]


def turned(things):
    """Return the things of a circle that is gone through the other way."""
    return [(front, back) for back, front in things[::-1]]


def couplings_of(things, parting):
    """Return the couplings of the layout that a parting tells."""
    last = {}
    pairs = []
    for (back, front), group in zip(things, parting):
        if group in last:
            pairs.append((last[group], back))
        last[group] = front
    # The last thing of each group leads back to the first one.
    for group, front in last.items():
        pairs.append((front, things[group][0]))
    return [coupling_of(front, back) for front, back in pairs if front is not None and back is not None]


def all_partings(number):
    """Return all partings of so many things."""
    # Each unfinished parting has the groups that may go on: each one lies within those that stand ahead of it here.
    unfinished = [([], [])]
    for thing in range(number):
        longer = []
        for parting, groups in unfinished:
            longer.append(([*parting, thing], [*groups, thing]))
            for at, group in enumerate(groups):
                longer.append(([*parting, group], groups[:at + 1]))
        unfinished = longer
    return [parting for parting, _ in unfinished]


def parting_of(part, things, partners):
    """Return the parting that a layout tells, by its table of partners, for a component that meets no other one."""
    number_by_back = {back: number for number, (back, _) in enumerate(things)}
    parting = list(range(len(things)))
    for number, (_, front) in enumerate(things):
        if front is None:
            continue
        following = number_by_back.get(partners[front], number)
        if part[0] == "other" and not partners[front]:
            following = len(things) - 1
        # Only the last thing of a group leads back to one that stands ahead.
        if following > number:
            parting[following] = parting[number]
    return parting


def _parting_by(groups):
    """Return the parting in which things are in one group if these values of theirs are equal."""
    first = {}
    for thing, group in enumerate(groups):
        if group not in first:
            first[group] = thing
    return [first[group] for group in groups]


def in_common(one, other):
    """Return the parting into what groups of two partings have in common."""
    return _parting_by(list(zip(one, other)))


def _holding(one, other):
    """Return the least groups that hold those of two partings, by one value for each thing; they may cross."""
    groups = list(one)
    for thing, first in enumerate(other):
        here, there = groups[thing], groups[first]
        groups = [there if group == here else group for group in groups]
    return groups


def around(one, other):
    """Return the parting into the smallest groups that do not cross and hold the groups of two partings."""
    groups = _holding(one, other)
    last = {group: thing for thing, group in enumerate(groups)}
    # The groups that may go on, each of them within those that stand ahead of it here.
    begun = []
    for thing in range(len(one)):
        group = groups[thing]
        if group not in begun:
            begun.append(group)
        while begun[-1] != group:
            inner = begun.pop()
            if last[inner] > thing:
                # It goes on behind a thing of the group around it, so the two cross.
                groups = [group if value == inner else value for value in groups]
                last[group] = max(last[group], last[inner])
    return _parting_by(groups)
