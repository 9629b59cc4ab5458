"""Point [17]: the kinds of all moves of two layouts with many of them, and what the errors of one call leave behind."""

import unittest

from crosshitch.errors import InvalidLayout, InvalidMove
from crosshitch.layouts import layout_of, open_ends, rings_of, rows_of
from crosshitch.moves import count_moves, is_move, kind_of, moved, moves_of
from tests.helpers import ErrorChecks, snapshot
from tests.test_moves import OPPOSITES, changed, kind_by_pieces

TWELVE = [(-12, 3), (-11, 5), (-10, -2), (-8, 7), (-6, 12), (-5, 1), (2, 9), (4, 10)]


def sixty():
    """A layout of 60 pieces with rows and rings of many lengths, in which some pieces lie the other way."""
    turned = [-piece if piece % 7 in (2, 3) else piece for piece in range(1, 61)]
    # Each row and each ring takes every fourth piece, so that no ends are neighbours by their numbers.
    mixed = [turned[at] for step in range(4) for at in range(step, 60, 4)]
    rows = [mixed[:21], mixed[21:22], mixed[22:31], mixed[31:32]]
    rings = [mixed[32:33], mixed[33:35], mixed[35:40], mixed[40:]]
    return layout_of(60, rows, rings)


class KindsOfAllMoves(unittest.TestCase):
    def check_all_moves(self, pieces, layout):
        kept = snapshot(layout)
        moves = moves_of(pieces, layout)
        self.assertEqual(len(moves), count_moves(pieces, layout))
        kinds = {}
        for move in moves:
            kept_move = snapshot(move)
            kind = kind_of(pieces, layout, move)
            self.assertEqual(kind, kind_by_pieces(pieces, layout, move), move)
            after = moved(pieces, layout, move)
            self.assertEqual(after, changed(pieces, layout, move))
            cut, joined = move
            self.assertEqual(kind_of(pieces, after, (joined, cut)), OPPOSITES[kind], move)
            self.assertEqual((layout, move), (kept, kept_move))
            kinds[kind] = kinds.get(kind, 0) + 1
        return kinds

    def test_twelve_pieces(self):
        kinds = self.check_all_moves(12, TWELVE)
        self.assertEqual(sum(kinds.values()), 220)
        self.assertEqual(set(kinds), {"cut", "join", "close", "let", "turn", "exchange"})

    def test_sixty_pieces(self):
        layout = sixty()
        self.assertEqual([len(rows_of(60, layout)), len(rings_of(60, layout)), len(open_ends(60, layout))], [4, 4, 8])
        kinds = self.check_all_moves(60, layout)
        self.assertEqual(set(kinds), set(OPPOSITES))

    def test_rings_of_twelve_pieces(self):
        layout = layout_of(12, [[3, -1]], [[2, 5], [4], [6, -8, 7], [9, 10, -11, 12]])
        kinds = self.check_all_moves(12, layout)
        self.assertEqual(set(kinds), {"cut", "close", "open", "let", "turn", "take", "part", "merge"})


class ErrorsOfManyMoves(ErrorChecks, unittest.TestCase):
    def test_a_move_of_another_layout(self):
        layout = sixty()
        for cut in layout:
            fewer = [coupling for coupling in layout if coupling != cut]
            self.assertIs(is_move(60, layout, ([cut], [])), True)
            self.assertIs(is_move(60, fewer, ([cut], [])), False)
            self.assertIs(is_move(60, layout, ([], [cut])), False)
            self.assertIs(is_move(60, fewer, ([], [cut])), True)
            for function in [moved, kind_of]:
                self.raised_string(InvalidMove, function, 60, fewer, ([cut], []))
                self.raised_string(InvalidMove, function, 60, layout, ([], [cut]))

    def test_each_item_of_a_layout_of_sixty_pieces(self):
        layout = sixty()
        move = ([layout[0]], [])
        for index, (low, high) in enumerate(layout):
            for wrong in [(high, low), [low, high], (low, high, low), (low, True), (False, high), (low, low), (low, 61),
                          (-61, high), (0, high), None, (low, "1"), (low, None), layout[index - 1]]:
                if wrong == (low, True) and low > 1:
                    wrong = (True, low)
                value = layout[:index] + [wrong] + layout[index + 1:]
                expected = index if wrong != layout[-1] else 1
                for function, more in [(open_ends, ()), (rows_of, ()), (is_move, (move,)), (moved, (move,)),
                                       (kind_of, (move,)), (count_moves, ())]:
                    self.raised_index(InvalidLayout, expected, function, 60, value, *more)


if __name__ == "__main__":
    unittest.main()
