"""Good moves, by the components that they change (see components).

A step is a tuple (move, gone, new): a good move, and the kinds of the components that it takes away and of those that
it makes, without those in which nothing is left to do. A kind is a tuple (word, cost).
"""

from crosshitch.basics import coupling_of
from crosshitch.components import cost_of


def kind_of_part(part):
    """Return the kind of a component."""
    return (part[0], cost_of(part))


def _places(part):
    """Return the places where a move can change a component, as pairs of ends in its sequence.

    A place is a coupling of `one`, or an end that is open in `one`, with None where its partner would stand.
    """
    word, ends = part
    line = ends
    if word == "odd":
        line = [None, *ends]
    elif word == "other":
        line = [None, *ends, None]
    return [(line[at], line[at + 1]) for at in range(0, len(line), 2)]


def _couplings(pair, other):
    """Return the ascending list of the couplings of two pairs of ends; a pair with None is none."""
    couplings = []
    for low, high in (pair, other):
        if low is not None and high is not None:
            couplings.append((low, high) if low < high else (high, low))
    if len(couplings) == 2 and couplings[1] < couplings[0]:
        couplings.reverse()
    return couplings


def _kinds_with_cost(*kinds):
    """Return the tuple of those kinds in which there is something left to do."""
    return tuple([kind for kind in kinds if kind[1] > 0])


def _steps_with_ring(part):
    """Return the steps in which a ring component comes off a component."""
    word, cost = kind_of_part(part)
    places = _places(part)
    steps = []
    for at, (start, end) in enumerate(places):
        for passed, (near, far) in enumerate(places[at + 1:]):
            # The ends from the one place to the other come off, with one coupling for each place that is passed.
            cut, joined = _couplings((start, end), (near, far)), _couplings((start, far), (end, near))
            new = _kinds_with_cost(("ring", passed), (word, cost - passed - 1))
            steps.append(((cut, joined), ((word, cost),), new))
    return steps


def _steps_with_cut(part):
    """Return the steps in which a way of `one` is cut, so that two odd ways come of it."""
    kind = kind_of_part(part)
    steps = []
    for at, place in enumerate(_places(part)):
        new = _kinds_with_cost(("odd", at), ("odd", kind[1] - at - 1))
        steps.append((([coupling_of(*place)], []), (kind,), new))
    return steps


def _steps_with_meeting(part, met):
    """Return the steps in which a way of `one` and one of `other` meet, so that two odd ways come of them."""
    gone = (kind_of_part(part), kind_of_part(met))
    cost, more = gone[0][1], gone[1][1]
    met_places = _places(met)
    steps = []
    for at, (start, end) in enumerate(_places(part)):
        for passed, (near, far) in enumerate(met_places):
            # What lies ahead of the one place goes on with one of the two sides of the other place.
            for side, joined in ((passed, _couplings((start, near), (end, far))),
                                 (more - passed, _couplings((start, far), (end, near)))):
                new = _kinds_with_cost(("odd", at + side), ("odd", cost - at - 1 + more - side))
                steps.append(((_couplings((start, end), (near, far)), joined), gone, new))
    return steps


def good_steps(parts):
    """Return all steps from a layout with these components towards the other one."""
    steps = []
    others = [part for part in parts if part[0] == "other"]
    for part in parts:
        if cost_of(part) > 0:
            steps.extend(_steps_with_ring(part))
        if part[0] == "one":
            steps.extend(_steps_with_cut(part))
            for met in others:
                steps.extend(_steps_with_meeting(part, met))
    return steps


def _least_move_alone(part):
    """Return the least good move that changes a component alone, one in which there is something left to do."""
    word, places = part[0], _places(part)
    numbered = sorted([(coupling_of(*place), at) for at, place in enumerate(places) if place[0] is not None])
    least, at = numbered[0]
    if word == "one":
        return ([least], [])
    # An odd way begins with its open end: to change this one, only one coupling is cut.
    more = 0 if word == "odd" else numbered[1][1]
    (start, end), (near, far) = places[min(at, more)], places[max(at, more)]
    return (_couplings((start, end), (near, far)), _couplings((start, far), (end, near)))


def least_good_move(parts):
    """Return the least good move from a layout with these components towards the other one, None if there is none."""
    joins = [coupling_of(ends[0], ends[-1]) for word, ends in parts if word == "other"]
    # Moves that cut nothing are the least ones; where there are none, no two ways can meet.
    if joins:
        return ([], [min(joins)])
    return min([_least_move_alone(part) for part in parts if cost_of(part) > 0], default=None)
