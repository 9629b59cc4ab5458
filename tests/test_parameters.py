"""The table of the errors of parameters in point [3], for every function of layouts and moves."""

import unittest

from crosshitch.errors import InvalidEnd, InvalidLayout, InvalidMove, InvalidPieces, InvalidRings, InvalidRows
from crosshitch.layouts import count_layouts, is_layout, layout_of, open_ends, partner_of, partners_of
from crosshitch.layouts import rings_of, rows_of
from crosshitch.moves import count_moves, is_move, kind_of, moved, moves_of
from tests.helpers import ErrorChecks, all_ends, snapshot, values_of_any_kind

# Each function that has a layout behind the pieces, with what is passed behind it.
WITH_LAYOUT = [
    (open_ends, ()), (partner_of, (1,)), (partners_of, ()), (rows_of, ()), (rings_of, ()),
    (is_move, (([], [(-1, 1)]),)), (moved, (([], [(-1, 1)]),)), (moves_of, ()), (count_moves, ()),
    (kind_of, (([], [(-1, 1)]),)),
]
WITH_PIECES = [
    (is_layout, ([],)), (count_layouts, ()), (layout_of, ([], [])),
    *[(function, ([], *more)) for function, more in WITH_LAYOUT],
]


def numbers_that_are_no_pieces():
    return [0, -1, -2, -60, 61, 62, 120, 10 ** 199, True, False]


def first_wrong(pieces, items):
    """The index that point [3] gives, None for a layout."""
    ends = all_ends(pieces)
    couplings = [(low, high) for low in ends for high in ends if low < high]
    for index, item in enumerate(items):
        ahead = items[:index]
        taken = [end for coupling in ahead for end in coupling]
        if item not in couplings or (ahead and item <= ahead[-1]) or item[0] in taken or item[1] in taken:
            return index
    return None


class Pieces(ErrorChecks, unittest.TestCase):
    def test_invalid_pieces(self):
        for pieces in [*values_of_any_kind(), *numbers_that_are_no_pieces(), [1], (2,), "3", b"4", {5: 5}]:
            for function, more in WITH_PIECES:
                self.raised_string(InvalidPieces, function, pieces, *more)

    def test_one_and_sixty_pieces(self):
        for pieces in [1, 2, 59, 60]:
            for function, more in WITH_PIECES:
                if function != moves_of or pieces < 13:
                    function(pieces, *more)

    def test_ahead_of_everything_else(self):
        for pieces in [0, 61, True, None, "1", [3]]:
            for wrong in [None, 5, [(1, -1)], [()], "text"]:
                self.raised_string(InvalidPieces, is_layout, pieces, wrong)
                self.raised_string(InvalidPieces, layout_of, pieces, wrong, [])
                self.raised_string(InvalidPieces, layout_of, pieces, [], wrong)
                self.raised_string(InvalidPieces, layout_of, pieces, wrong, wrong)
                for function, more in WITH_LAYOUT:
                    self.raised_string(InvalidPieces, function, pieces, wrong, *more)
                    self.raised_string(InvalidPieces, function, pieces, wrong, *[None for _ in more])


class Layouts(ErrorChecks, unittest.TestCase):
    WRONG = [
        ([(1, -1)], 0), ([(-2, 1), (1, -2)], 1), ([(-2, 1), (-2, 1)], 1), ([(-2, 1), (-3, 2)], 1),
        ([(-3, 2), (-2, 1), (-1, 1)], 2), ([(-3, 2), (-3, 3)], 1), ([(-3, 2), (2, 3)], 1), ([(-3, 2), (-2, -2)], 1),
        ([(-3, 2), (-2, 2)], 1), ([(-3, 2), (-2, 1), (-2, 3)], 2), ([(-4, 1)], 0), ([(1, 4)], 0), ([(0, 1)], 0),
        ([(-1, 0)], 0), ([(-2, 1), (-1, 4)], 1), ([[-2, 1]], 0), ([(-3, 2), [-2, 1]], 1), ([(-2, 1, 3)], 0),
        ([(-2,)], 0), ([()], 0), ([-2, 1], 0), ([(-1, True)], 0), ([(-2, 1), (-1, True)], 1), ([(False, 1)], 0),
        ([("-2", "1")], 0), ([(-2, None)], 0), ([((-2, 1), (1, 2))], 0), ([{-2: 1, 1: 2}], 0), ([{-2, 1}], 0),
        (["12"], 0), ([(-10 ** 199, 1)], 0), ([(1, 10 ** 199)], 0), ([(-3, -2), (-1, 1), (1, 2), (9, 9)], 2),
        ([(-3, -2), (-1, 1), (2, 3), (2, 3)], 3), ([(-3, -2), None, 5], 1), ([(-2, 1)] * 400, 1),
        (((-2, 1),), None), ((), None), ({}, None), ({(-2, 1): 0}, None), ({(-2, 1)}, None), ("", None), (b"", None),
        (None, None), (0, None), (True, None), (False, None), (iter([(-2, 1)]), None), (range(0), None),
    ]

    def test_index(self):
        for layout, index in self.WRONG:
            for function, more in WITH_LAYOUT:
                self.raised_index(InvalidLayout, index, function, 3, layout, *more)

    def test_index_for_every_list_of_up_to_three_items(self):
        items = [(-2, -1), (-2, 1), (-2, 2), (-1, 1), (-1, 2), (1, 2), (2, 1), (1, 1), (-2, 3), (0, 2)]
        for layout in [[one, two, three][:size] for one in items for two in items for three in items
                       for size in (1, 2, 3)]:
            index = first_wrong(2, layout)
            if index is None:
                self.assertTrue(is_layout(2, layout))
            else:
                self.assertFalse(is_layout(2, layout))
                self.raised_index(InvalidLayout, index, partners_of, 2, layout)

    def test_values_of_any_kind(self):
        for value in values_of_any_kind():
            index = 0 if isinstance(value, list) else None
            for function, more in WITH_LAYOUT:
                self.raised_index(InvalidLayout, index, function, 60, value, *more)
                self.raised_index(InvalidLayout, 1, function, 60, [(-3, 2), value], *more)
                self.raised_index(InvalidLayout, 0, function, 60, [(-60, value)], *more)

    def test_of_another_number_of_pieces(self):
        for function, more in WITH_LAYOUT:
            self.raised_index(InvalidLayout, 0, function, 1, [(-2, -1)], *more)
            self.raised_index(InvalidLayout, 1, function, 59, [(-59, -2), (2, 60)], *more)

    def test_ahead_of_ends_and_moves(self):
        for wrong in [None, 0, 4, True, "1", [], ([], [])]:
            self.raised_index(InvalidLayout, 1, partner_of, 3, [(-3, 2), (1, 2)], wrong)
            for function in [is_move, moved, kind_of]:
                self.raised_index(InvalidLayout, 1, function, 3, [(-3, 2), (1, 2)], wrong)
                self.raised_index(InvalidLayout, None, function, 3, None, wrong)
            self.raised_index(InvalidLayout, None, partner_of, 3, (), wrong)

    def test_wrong_values_stay(self):
        layout, move = [(-3, 2), (-3, 1)], ([(-3, 2)], [(2, -3)])
        kept = snapshot((layout, move))
        for function, more in WITH_LAYOUT:
            self.raised_index(InvalidLayout, 1, function, 3, layout, *more)
        for function in [moved, kind_of]:
            self.raised_string(InvalidMove, function, 3, [(-3, 2)], move)
        self.assertEqual((layout, move), kept)
        rows, rings = [[2, -1], [1]], [[3, 3]]
        kept = snapshot((rows, rings))
        self.raised_index(InvalidRows, 1, layout_of, 3, rows, rings)
        self.raised_index(InvalidRings, 0, layout_of, 3, rows[:1], rings)
        self.assertEqual((rows, rings), kept)


class EndsAndMoves(ErrorChecks, unittest.TestCase):
    def test_with_a_layout_that_is_right(self):
        self.raised_string(InvalidEnd, partner_of, 3, [(-3, 2)], 4)
        self.raised_string(InvalidMove, moved, 3, [(-3, 2)], 4)
        self.raised_string(InvalidMove, kind_of, 3, [(-3, 2)], 4)
        self.assertIs(is_move(3, [(-3, 2)], 4), False)


if __name__ == "__main__":
    unittest.main()
