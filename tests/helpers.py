"""What several tests need: layouts and moves made straight from the document, and values of any kind."""

import copy


def all_ends(pieces):
    return [end for end in range(-pieces, pieces + 1) if end]


def all_couplings(pieces):
    ends = all_ends(pieces)
    return [(low, high) for low in ends for high in ends if low < high]


def _matchings(ends):
    if not ends:
        yield []
        return
    first, rest = ends[0], ends[1:]
    yield from _matchings(rest)
    for at, other in enumerate(rest):
        for more in _matchings(rest[:at] + rest[at + 1:]):
            yield [(first, other)] + more


def all_layouts(pieces):
    return sorted(sorted(layout) for layout in _matchings(all_ends(pieces)))


def coupled_ends(layout):
    return {end for coupling in layout for end in coupling}


def moves_by_forms(pieces, layout):
    """All moves, each of the four forms tried over all couplings of ends."""
    opens = set(all_ends(pieces)) - coupled_ends(layout)
    couplings = all_couplings(pieces)
    moves = [([], [(low, high)]) for low, high in couplings if {low, high} <= opens]
    for cut in layout:
        moves.append(([cut], []))
        for joined in couplings:
            if len(set(joined) & set(cut)) == 1 and len(set(joined) & opens) == 1:
                moves.append(([cut], [joined]))
    for cut in [[one, two] for one in layout for two in layout if one < two]:
        for joined in [[one, two] for one in couplings for two in couplings if one < two]:
            ends = set(cut[0]) | set(cut[1])
            if set(joined[0]) | set(joined[1]) == ends and not set(joined) & set(cut):
                moves.append((cut, joined))
    return sorted(copy.deepcopy(moves))


def lists_in(value):
    """All lists in a value, the value itself included."""
    found = [value] if isinstance(value, list) else []
    if isinstance(value, (list, tuple)):
        for item in value:
            found.extend(lists_in(item))
    return found


class Thing:
    """An object that nothing in the package knows."""


def nested(levels):
    value = []
    for _ in range(levels - 1):
        value = [value]
    return value


def values_of_any_kind():
    """Values that are no ends or numbers of up to 60 pieces, no couplings, layouts, moves or readings."""
    return [
        None, True, False, 0, 61, -61, 10 ** 199, -10 ** 199, "", "1", "(1, 2)", "a" * 4000, b"", b"1", ...,
        (), (1,), (1, -1), ("-1", "1"), ([],), ((), ()), ([], []), ([], (), []), {}, {1: 1}, {"a": []},
        set(), {1}, {(-1, 1)}, frozenset(), range(3), range(0), Thing(), Thing, len, lambda: 1, iter([]),
        NotImplemented, ValueError("1"), [None], [True], [[[]]], [()], [(-1, True)], nested(17), (nested(16),),
    ]


def snapshot(value):
    return copy.deepcopy(value)


class ErrorChecks:
    """A mixin for test cases: an exact class of error, with its field."""

    def raised(self, error, function, *arguments):
        try:
            answer = function(*arguments)
        except Exception as caught:
            self.assertIs(type(caught), error, f"{function.__name__}{arguments!r} raised {caught!r}")
            return caught
        self.fail(f"{function.__name__}{arguments!r} returned {answer!r}, {error.__name__} is due")

    def raised_index(self, error, index, function, *arguments):
        caught = self.raised(error, function, *arguments)
        self.assertEqual(caught.index, index, f"{function.__name__}{arguments!r}")
        self.assertIs(type(caught.index), type(index))

    def raised_string(self, error, function, *arguments):
        caught = self.raised(error, function, *arguments)
        self.assertEqual([type(part) for part in caught.args], [str])
