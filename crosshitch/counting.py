"""Sums over all that shortest lists of moves can do with the components of two layouts, by the costs of these.

A way of `one` and a way of `other` can meet, and each way meets at most one other one. So there is one product of
weights for each way to pair some ways of `one` with some of `other`: those in a pair meet, and all others do not. What
is counted by the weights are shortest lists (ListWeights) or layouts between (LayoutWeights).
"""

from math import comb, factorial

# ListWeights.meeting for the costs of ways that four pieces can have.
MEETINGS_OF_FEW = {(1, 1): 4, (1, 2): 24, (2, 1): 24, (1, 3): 196, (2, 2): 208, (3, 1): 196}
# How many partings of up to five things there are, from one group on.
NUMBERS_OF_PARTINGS = ((), (1,), (1, 1), (1, 3, 1), (1, 6, 6, 1), (1, 10, 20, 10, 1))


def _lists_alone(cost):
    """Return the number of shortest lists of a component alone."""
    # The exponent is cost - 1; for the cost 0 it becomes 64, and the power is 1 all the same.
    return (cost + 1) ** (int(cost - 1) % 65)


def lists_apart(costs):
    """Return the number of shortest lists of components that do not meet."""
    count = factorial(sum(costs))
    for cost in costs:
        # Those of less than two moves change nothing more.
        if cost > 1:
            count = count * _lists_alone(cost) // factorial(cost)
    return count


def layouts_apart(costs):
    """Return the number of layouts between by components that do not meet."""
    count = 1
    for cost in costs:
        count = count * comb(2 * cost + 2, cost + 1) // (cost + 2)
    return count


def _powers(base, number):
    """Return the first powers of a base, from the exponent 0 on."""
    powers = [1]
    for _ in range(number - 1):
        powers.append(powers[-1] * base)
    return powers


def _lists_closed_by(cost):
    """Return how many shortest lists of a way of `other` join its outer ends in the first moves, for 0 moves and more.

    For less than all moves these are moves * cost ** (cost - 1 - moves) * (cost + 1) ** (moves - 1). The same numbers,
    from the last one on, tell how many lists of a way of `one` do not cut it in the first moves: each such list is one
    of a way of `other`, gone back.
    """
    lows, highs = _powers(cost, cost), _powers(cost + 1, cost)
    numbers = [0]
    for moves in range(1, cost):
        numbers.append(moves * lows[cost - 1 - moves] * highs[moves - 1])
    numbers.append(highs[-1])
    return numbers


class ListWeights:
    """The numbers of shortest lists."""

    def __init__(self):
        self._meeting = {}
        # What is already known of several ways together (see weight_of_all).
        self.together = {}

    def alone(self, cost):
        """Return the number of shortest lists of a component that does not meet another one."""
        return _lists_alone(cost)

    def meeting(self, one, other):
        """Return the number of shortest lists in which a way of `one` and a way of `other` meet, by their costs."""
        if (one, other) in MEETINGS_OF_FEW:
            return MEETINGS_OF_FEW[one, other]
        if (one, other) not in self._meeting:
            self._meeting[one, other] = 2 * (self.alone(one + other) - self._closed_and_cut(one, other))
        return self._meeting[one, other]

    def _closed_and_cut(self, one, other):
        """Return the number of those in which they do not meet, and the way of `other` is closed ahead of the cut.

        In each of two ways the two make one circle, so one component with the cost of both. In its lists they meet, but
        for those in which the way of `other` comes off as a whole before the way of `one` is divided: these are as many
        as are counted here. (The sums over all first moves give the same numbers, but take much longer.)
        """
        closed, uncut = _lists_closed_by(other), _lists_closed_by(one)[::-1]
        count = 0
        for last in range(1, other + 1):
            closing = closed[last] - closed[last - 1]
            for ahead in range(one):
                shuffles = self.mixed(last - 1, ahead) * self.mixed(other - last, one - ahead)
                count += closing * uncut[ahead] * shuffles
        return count

    def mixed(self, some, others):
        """Return the number of ways to shuffle so many moves and so many others."""
        return comb(some + others, some)

    def apart(self, costs):
        """Return the number of shortest lists of components that do not meet."""
        return lists_apart(costs)


def _partings(things):
    """Return how many partings of some things there are, from one group on."""
    if things < len(NUMBERS_OF_PARTINGS):
        return NUMBERS_OF_PARTINGS[things]
    return [comb(things, groups) * comb(things, groups - 1) // things for groups in range(1, things + 1)]


class LayoutWeights:
    """The numbers of layouts between, for each number of moves from `one`.

    They are the digits of an integer to the base 2 ** bits, from the lowest one on, if no digit takes more bits: those
    of the sum of all are enough. With 0 bits the integer is this sum.
    """

    def __init__(self, bits):
        self._bits = bits
        self._partings = {}
        self.together = {}

    def _parted(self, things):
        """Return N(things): the numbers of partings, by how many groups there are above one."""
        if things not in self._partings:
            digits = 0
            for above, number in enumerate(_partings(things)):
                digits += number << self._bits * above
            self._partings[things] = digits
        return self._partings[things]

    def alone(self, cost):
        """Return the numbers for a component that does not meet another one."""
        return self._parted(cost + 1)

    def meeting(self, one, other):
        """Return the numbers of layouts in which ends of a way of `one` and of a way of `other` are coupled."""
        more = (self._parted(one) * self._parted(other) << self._bits) + self._parted(one + other + 1)
        less = (self._parted(one + 1) * self._parted(other) << self._bits) + self._parted(one) * self._parted(other + 1)
        return 2 * (more - less)

    def mixed(self, some, others):
        """Return 1: a layout does not tell in which sequence its moves were made."""
        return 1

    def apart(self, costs):
        """Return the numbers for components that do not meet."""
        digits = 1
        for cost in costs:
            digits = digits * self._parted(cost + 1)
        return digits


def _kinds(costs):
    """Return the ascending list of the costs that are there, and a tuple of how often each one is."""
    kinds = sorted(set(costs))
    return kinds, tuple([costs.count(cost) for cost in kinds])


def _costs_of(kinds, numbers):
    """Return the list of the costs that are there so often."""
    return [cost for cost, number in zip(kinds, numbers) for _ in range(number)]


def _pairings_by_left(weights, meeting, ones, others):
    """Return a dict from how many ways of each kind of `others` are in no pair to the weight of `ones` and all pairs.

    `meeting` returns the weight of two ways in a pair, by the cost of that in `ones` and the cost of that in `others`.
    """
    kinds, numbers = _kinds(others)
    sums = {numbers: 1}
    done = sum(others)
    for one in ones:
        apart = weights.alone(one)
        met = [meeting(one, kind) for kind in kinds]
        following = {}
        for left, weight in sums.items():
            used = done - sum([kind * number for kind, number in zip(kinds, left)])
            following[left] = following.get(left, 0) + weight * apart * weights.mixed(used, one)
            for at, number in enumerate(left):
                if number > 0:
                    fewer = left[:at] + (number - 1,) + left[at + 1:]
                    both = weight * number * met[at] * weights.mixed(used, one + kinds[at])
                    following[fewer] = following.get(fewer, 0) + both
        sums = following
        done += one
    return sums


def _how_many_subsets(costs):
    """Return how many lists of costs can be left of these."""
    many = 1
    for number in _kinds(costs)[1]:
        many = many * (number + 1)
    return many


def _weight_of_pairings(weights, ones, others):
    """Return the weight of all ways together, by the costs of those of `one` and of those of `other`."""
    meeting = weights.meeting
    # It takes as many sums as there are subsets of the second ones, and it does not matter which ones these are.
    if _how_many_subsets(ones) < _how_many_subsets(others):
        ones, others = others, ones
        meeting = lambda cost, met: weights.meeting(met, cost)
    kinds, _ = _kinds(others)
    total = 0
    for left, weight in _pairings_by_left(weights, meeting, ones, others).items():
        apart = _costs_of(kinds, left)
        done = sum(ones) + sum(others) - sum(apart)
        total += weight * weights.apart(apart) * weights.mixed(done, sum(apart))
    return total


def _weight_with_one(weights, alone, ones, others):
    """Return the weight of all components, if there is one way of `one` or one way of `other`: so only two can meet."""
    costs = alone + ones + others
    moves = sum(costs)
    weight = weights.apart(costs)
    for one in ones:
        for other in others:
            rest = list(costs)
            rest.remove(one)
            rest.remove(other)
            both = one + other
            weight += weights.meeting(one, other) * weights.apart(rest) * weights.mixed(both, moves - both)
    return weight


def weight_of_all(weights, alone, ones, others):
    """Return the weight of all components, by the costs of ways of `one`, of ways of `other`, and of all others."""
    if len(ones) == 0 or len(others) == 0:
        return weights.apart(alone + ones + others)
    if len(ones) == 1 or len(others) == 1:
        return _weight_with_one(weights, alone, ones, others)
    key = (tuple(sorted(ones)), tuple(sorted(others)))
    if key not in weights.together:
        weights.together[key] = _weight_of_pairings(weights, ones, others)
    return weights.together[key] * weights.apart(alone) * weights.mixed(sum(ones) + sum(others), sum(alone))
