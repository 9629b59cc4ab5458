"""Pairs of layouts that are laid out with the components that a test wants, and long ones of sixty pieces."""

import random

from tests.helpers import all_ends

LINE = [(-3, 2), (-2, 1)]
BENT = [(-3, -2), (1, 2)]
RING = [(-3, 2), (-2, 1), (-1, 3)]
PAIR = [(-2, 1)]
BACK = [(-1, 2)]
LOOPS = [(-piece, piece) for piece in range(60, 0, -1)]
LONG_ROW = [(-piece - 1, piece) for piece in range(59, 0, -1)]
LONG_RING = sorted(LONG_ROW + [(-1, 60)])


def how_many_ends(kind):
    word, cost = kind
    return 2 * cost + {"ring": 2, "odd": 1, "one": 0, "other": 0}[word]


def _coupled(ends, first):
    """The couplings of each two neighbours, from the first or the second end on."""
    return [tuple(sorted(ends[at:at + 2])) for at in range(first, len(ends) - 1, 2)]


def laid(pieces, kinds, seed=0):
    """Two layouts with components of these kinds, (word, cost), on ends in any sequence; all other ends are open in both."""
    ends = all_ends(pieces)
    random.Random(f"{seed} {kinds}").shuffle(ends)
    one, other = [], []
    for kind in kinds:
        word = kind[0]
        here, ends = ends[:how_many_ends(kind)], ends[how_many_ends(kind):]
        assert len(here) == how_many_ends(kind), "not so many ends"
        if word == "ring":
            here = here + here[:1]
        first = 0 if word in ("one", "ring") else 1
        one.extend(_coupled(here, first))
        other.extend(_coupled(here, 1 - first))
    return sorted(one), sorted(other)


def some_kinds(ends, rnd, words=("ring", "odd", "one", "other"), most=6):
    """Kinds of components with so many ends together."""
    kinds = []
    while ends > 0:
        word = rnd.choice(words)
        least = 1 if word in ("one", "other") else 0
        kind = (word, rnd.randint(least, rnd.randint(least, most)))
        if how_many_ends(kind) > ends:
            kind = ("odd", 0)
        kinds.append(kind)
        ends -= how_many_ends(kind)
    return kinds


def some_layout(pieces, couplings, rnd):
    ends = all_ends(pieces)
    rnd.shuffle(ends)
    return sorted(tuple(sorted(ends[2 * at:2 * at + 2])) for at in range(couplings))


def some_pairs(seed, many, pieces, words=("ring", "odd", "one", "other"), most=6):
    """Pairs of layouts, some of them with components as they come, some of any couplings."""
    rnd = random.Random(seed)
    pairs = []
    for number in range(many):
        if number % 3 == 0:
            pairs.append((some_layout(pieces, rnd.randint(0, pieces), rnd),
                          some_layout(pieces, rnd.randint(0, pieces), rnd)))
        else:
            pairs.append(laid(pieces, some_kinds(2 * pieces, rnd, words, most), number))
    return pairs
