"""Sights told apart from the package: their strands, and the formula of point [14]."""

import math

from tests.helpers import all_ends, coupled_ends


def _parts_of_ends(pieces, couplings):
    """The ends in parts, two of them in one if the couplings lead from the one to the other."""
    part_of = {end: {end} for end in all_ends(pieces)}
    for low, high in couplings:
        if part_of[low] is not part_of[high]:
            part_of[low] |= part_of[high]
            for end in part_of[high]:
                part_of[end] = part_of[low]
    return [part for end, part in part_of.items() if end == min(part)]


def strands_of(pieces, layout, known, opens):
    """The numbers of strands of the three sorts, and what the closed components add to the score."""
    unknown = set(all_ends(pieces)) - coupled_ends(known) - set(opens)
    x = y = z = closed = 0
    for part in _parts_of_ends(pieces, layout + known):
        free = part & unknown
        if len(free) == 2:
            x += 1
        elif len(free) == 1 and part & set(opens):
            z += 1
        elif len(free) == 1:
            y += 1
        elif part <= coupled_ends(layout) & coupled_ends(known):
            closed += 2
        else:
            closed += len(part) % 2
    return x, y, z, closed


def _rings_by_formula(x, ways):
    """By r: how many layouts there are with x strands of the first sort, beside so many ways of the others."""
    counts = [0] * (x + 1)
    for m in range(x + 1):
        polynomial = [1]
        for h in range(x - m):
            factor = 2 * (ways + m + h)
            polynomial = [factor * low + high for low, high in zip(polynomial + [0], [0] + polynomial)]
        for r, number in enumerate(polynomial):
            counts[r] += math.comb(x, m) * number
    return counts


def numbers_by_formula(x, y, z):
    """By what they add to the score: the numbers of layouts for strands of three sorts, as point [14] gives them."""
    rings = {}
    counts = {}
    for p in range(min(y, z) + 1):
        for j in range((y - p) // 2 + 1):
            for w in range((z - p) // 2 + 1):
                i, v = y - p - 2 * j, z - p - 2 * w
                ways = p + i + j + w + v
                if ways not in rings:
                    rings[ways] = _rings_by_formula(x, ways)
                number = math.factorial(y) * math.factorial(z) // (
                    math.factorial(p) * math.factorial(i) * math.factorial(j) * 2 ** j
                    * math.factorial(w) * 2 ** w * math.factorial(v))
                for r, more in enumerate(rings[ways]):
                    score = 2 * r + p + i
                    counts[score] = counts.get(score, 0) + number * more
    return counts


def counts_by_formula(pieces, layout, known, opens):
    """What Sight.counts returns, by the formula."""
    x, y, z, closed = strands_of(pieces, layout, known, opens)
    numbers = numbers_by_formula(x, y, z).items()
    counts = {pieces - (closed + score) // 2: number for score, number in numbers if number}
    return [counts.get(moves, 0) for moves in range(max(counts) + 1)]


def fits(layout, known, opens):
    return set(known) <= set(layout) and not coupled_ends(layout) & set(opens)


def some_sight(pieces, rnd, layout=None):
    """The couplings and the open ends of a sight, some of them those of a layout."""
    ends = all_ends(pieces)
    known, opens = [], []
    for low, high in rnd.sample(layout, rnd.randint(0, len(layout) // 2)) if layout else []:
        known.append((low, high))
        ends = [end for end in ends if end not in (low, high)]
    rnd.shuffle(ends)
    couplings, many = rnd.randint(0, len(ends) // 3), rnd.randint(0, len(ends) // 3)
    known += [tuple(sorted(ends[2 * at:2 * at + 2])) for at in range(couplings)]
    opens = sorted(ends[2 * couplings:2 * couplings + many])
    return sorted(known), opens
