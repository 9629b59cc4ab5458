"""Points [2], [3] and [15] for the functions of overlay, lists, between and shells: wrong values for each parameter."""

import unittest

from crosshitch.between import all_between, count_between, counts_between, first_behind, is_between, last_ahead
from crosshitch.errors import InvalidLayout, InvalidMoves, InvalidNumber, InvalidPieces, MixedWays, NotBetween, TooMany
from crosshitch.lists import count_shortest, count_through, good_moves, nth_shortest, shortest_index
from crosshitch.overlay import components_of, fewest_moves, is_shortest, leads, shortest
from crosshitch.shells import counts_by_moves, index_at, mean_moves, nth_at
from tests.helpers import ErrorChecks, snapshot, values_of_any_kind
from tests.laying import LOOPS

ONE, OTHER = [(-2, 1)], [(-1, 2), (3, 4)]
MOVES = [([], [(-1, 2)]), ([(-2, 1)], []), ([], [(3, 4)])]

# What is passed for each parameter; behind the pieces (P) come layouts (L), numbers (N) and lists of moves (M).
FUNCTIONS = [
    (components_of, "PLL", (4, ONE, OTHER)), (fewest_moves, "PLL", (4, ONE, OTHER)), (shortest, "PLL", (4, ONE, OTHER)),
    (leads, "PLLM", (4, ONE, OTHER, MOVES)), (is_shortest, "PLLM", (4, ONE, OTHER, MOVES)),
    (good_moves, "PLL", (4, ONE, OTHER)), (count_shortest, "PLL", (4, ONE, OTHER)),
    (count_through, "PLLL", (4, ONE, OTHER, [])), (nth_shortest, "PLLN", (4, ONE, OTHER, 2)),
    (shortest_index, "PLLM", (4, ONE, OTHER, MOVES)), (is_between, "PLLL", (4, ONE, OTHER, [])),
    (count_between, "PLL", (4, ONE, OTHER)), (counts_between, "PLL", (4, ONE, OTHER)),
    (all_between, "PLL", (4, ONE, OTHER)), (first_behind, "PLLLL", (4, ONE, [], ONE, [])),
    (last_ahead, "PLLLL", (4, ONE, [], ONE, [])), (counts_by_moves, "PL", (4, ONE)), (mean_moves, "PL", (4, ONE)),
    (nth_at, "PLNN", (4, ONE, 2, 3)), (index_at, "PLL", (4, ONE, OTHER)),
]

WRONG_LAYOUTS = [
    ([(1, -1)], 0), ([(-2, 1), (1, -2)], 1), ([(-2, 1), (-2, 1)], 1), ([(-2, 1), (-3, 2)], 1), ([(-3, 2), (2, 3)], 1),
    ([(-4, 3), (-2, 1), (-1, 1)], 2), ([(-5, 1)], 0), ([(1, 5)], 0), ([(0, 1)], 0), ([(-1, 0)], 0), ([[-2, 1]], 0),
    ([(-2, 1, 3)], 0), ([(-2,)], 0), ([()], 0), ([-2, 1], 0), ([(-1, True)], 0), ([(-2, 1), (False, 2)], 1),
    ([("-2", "1")], 0), ([(-2, None)], 0), ([{-2, 1}], 0), (["12"], 0), ([(-10 ** 199, 1)], 0), ([(-2, 1), None], 1),
    ([(-4, -3), (-2, -1), (1, 2), (3, 3)], 3), ([(-4, -3), (-2, -1), (1, 2), (3, 4), (4, 4)], 4), ([(-2, 1)] * 400, 1),
    ([(-2, 1), (0, 3)], 1), ([(-4, 3), (-2, 0)], 1), ([(-4, 3), (-2, 1), (-1, 0)], 2), ([(-2, 1), (-1, 2), (0, 4)], 2),
    (((-2, 1),), None), ((), None), ({}, None), ({(-2, 1)}, None), ("", None), (b"", None), (None, None), (0, None),
    (True, None), (range(0), None), (iter([]), None),
]
WRONG_NUMBERS = [-1, -10 ** 199, True, False, None, "1", "", b"1", [], [1], (), (1,), {}, {1: 1}, {1}, range(1), ...]
WRONG_PIECES = [0, -1, 61, 10 ** 199, True, False, None, "4", b"4", [4], (4,), {4: 4}, {4}, ...]
ERRORS = {"P": InvalidPieces, "L": InvalidLayout, "N": InvalidNumber}


def wrong_values(kind):
    """Wrong values for a parameter, with the index that an error of a layout has."""
    if kind == "L":
        return WRONG_LAYOUTS
    return [(value, None) for value in {"P": WRONG_PIECES, "N": WRONG_NUMBERS, "M": []}[kind]]


class WrongParameters(ErrorChecks, unittest.TestCase):
    def check(self, kind, index, function, arguments):
        if kind == "L":
            self.raised_index(InvalidLayout, index, function, *arguments)
        else:
            self.raised_string(ERRORS[kind], function, *arguments)

    def test_right_parameters(self):
        for function, _, arguments in FUNCTIONS:
            function(*arguments)

    def test_each_parameter(self):
        for function, kinds, arguments in FUNCTIONS:
            for at, kind in enumerate(kinds):
                for value, index in wrong_values(kind):
                    self.check(kind, index, function, [*arguments[:at], value, *arguments[at + 1:]])

    def test_the_first_wrong_parameter(self):
        for function, kinds, arguments in FUNCTIONS:
            for at, kind in enumerate(kinds):
                for behind in [None, [(1, -1)], [(-9, 9)], -1, "wrong", [([], [(-1, 2)])]]:
                    for value, index in wrong_values(kind)[::4]:
                        rest = [behind for _ in kinds[at + 1:]]
                        self.check(kind, index, function, [*arguments[:at], value, *rest])

    def test_values_of_any_kind(self):
        for function, kinds, arguments in FUNCTIONS:
            for at, kind in enumerate(kinds):
                for value in values_of_any_kind():
                    if kind == "M" or (kind == "N" and type(value) == int and value >= 0):
                        continue
                    index = 0 if isinstance(value, list) else None
                    self.check(kind, index, function, [*arguments[:at], value, *arguments[at + 1:]])
                    if kind == "L":
                        for wrong, place in [([value], 0), ([(-2, value)], 0), ([(-2, 1), value], 1)]:
                            self.check(kind, place, function, [*arguments[:at], wrong, *arguments[at + 1:]])

    def test_of_another_number_of_pieces(self):
        for function, kinds, arguments in FUNCTIONS:
            for at, kind in enumerate(kinds):
                if kind == "L":
                    wrong = [*arguments[:at], [(-4, -3), (4, 5)], *arguments[at + 1:]]
                    self.raised_index(InvalidLayout, 1, function, *wrong)

    def test_parameters_stay(self):
        for function, kinds, arguments in FUNCTIONS:
            kept = snapshot(arguments)
            first = function(*arguments)
            self.assertEqual(arguments, kept)
            self.assertEqual(function(*arguments), first)
            for at, kind in enumerate(kinds):
                for value, index in wrong_values(kind)[:12]:
                    kept_value = snapshot(value)
                    self.check(kind, index, function, [*arguments[:at], value, *arguments[at + 1:]])
                    self.assertEqual((arguments, value), (kept, kept_value))


class BehindTheParameters(ErrorChecks, unittest.TestCase):
    def test_numbers_that_are_too_great(self):
        for function, arguments in [(nth_shortest, (4, ONE, OTHER, 30)), (nth_shortest, (4, ONE, ONE, 1)),
                                    (nth_at, (4, ONE, 5, 0)), (nth_at, (4, ONE, 0, 1)), (nth_at, (4, ONE, 1, 10 ** 6))]:
            self.raised_string(InvalidNumber, function, *arguments)
        self.assertEqual(count_shortest(4, ONE, OTHER), 30)
        self.raised_string(InvalidNumber, nth_at, 4, ONE, 10 ** 199, -1)
        self.raised_index(InvalidLayout, None, nth_at, 4, None, 10 ** 199, 10 ** 199)

    def test_errors_that_are_listed(self):
        self.raised_string(InvalidMoves, shortest_index, 4, ONE, OTHER, None)
        self.raised_index(InvalidLayout, None, shortest_index, 4, ONE, None, None)
        self.raised_string(NotBetween, first_behind, 4, ONE, OTHER, ONE, [(-4, 4)])
        self.raised_string(MixedWays, first_behind, 4, ONE, OTHER, ONE, OTHER)
        self.raised_index(InvalidLayout, 0, first_behind, 4, ONE, OTHER, [(-4, 4)], [(-5, 4)])
        self.raised(TooMany, all_between, 60, LOOPS, [])
        self.raised_index(InvalidLayout, 0, all_between, 60, LOOPS, [0])

    def test_none_where_any_value_is_accepted(self):
        for value in values_of_any_kind():
            self.assertIs(leads(4, ONE, OTHER, value), False)
            self.assertIs(is_shortest(4, ONE, OTHER, value), False)
            self.raised_string(InvalidMoves, shortest_index, 4, ONE, OTHER, value)


if __name__ == "__main__":
    unittest.main()
