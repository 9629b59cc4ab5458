"""Points [7] and [17]."""

import itertools
import unittest

from crosshitch.errors import InvalidMove
from crosshitch.layouts import layout_of, rings_of, rows_of
from crosshitch.moves import count_moves, is_move, kind_of, moved, moves_of
from tests.helpers import ErrorChecks, all_couplings, all_ends, all_layouts, lists_in, moves_by_forms, snapshot
from tests.helpers import values_of_any_kind

LINE = [(-3, 2), (-2, 1)]
LONG_ROW = [(-piece - 1, piece) for piece in range(59, 0, -1)]
LONG_RING = sorted(LONG_ROW + [(-1, 60)])
LOOPS = [(-piece, piece) for piece in range(60, 0, -1)]

OPPOSITES = {
    "cut": "join", "join": "cut", "open": "close", "close": "open", "let": "take", "take": "let", "part": "merge",
    "merge": "part", "exchange": "exchange", "turn": "turn",
}


def changed(pieces, layout, move):
    """The layout that a move makes, by taking out and putting in."""
    cut, joined = move
    return sorted((set(layout) - set(cut)) | set(joined))


def kind_by_pieces(pieces, layout, move):
    """The kind of a move, by the pieces of the rows and rings that it changes."""
    after = changed(pieces, layout, move)
    touched = {abs(end) for part in move for coupling in part for end in coupling}
    rows, rings, new_rows, new_rings = [
        [set(map(abs, reading)) for reading in readings if touched & set(map(abs, reading))]
        for readings in [rows_of(pieces, layout), rings_of(pieces, layout), rows_of(pieces, after),
                         rings_of(pieces, after)]
    ]
    if (rows, rings) == (new_rows, new_rings):
        return "turn"
    return {
        (1, 0, 2, 0): "cut", (2, 0, 1, 0): "join", (0, 1, 1, 0): "open", (1, 0, 0, 1): "close", (1, 0, 1, 1): "let",
        (1, 1, 1, 0): "take", (0, 1, 0, 2): "part", (0, 2, 0, 1): "merge", (2, 0, 2, 0): "exchange",
    }[len(rows), len(rings), len(new_rows), len(new_rings)]


class IsMove(unittest.TestCase):
    def check_values(self, pieces, layout, lists):
        moves = {repr(move) for move in moves_by_forms(pieces, layout)}
        for cut in lists:
            for joined in lists:
                value = (cut, joined)
                self.assertIs(is_move(pieces, layout, value), repr(value) in moves, (layout, value))

    def test_every_two_lists_of_two_pieces(self):
        couplings = all_couplings(2)
        lists = [list(items) for size in range(4) for items in itertools.product(couplings, repeat=size)]
        short = [items for items in lists if len(items) < 3]
        for layout in all_layouts(2):
            self.check_values(2, layout, short)
        self.check_values(2, [(-2, 1), (-1, 2)], lists)

    def test_every_two_lists_of_three_pieces(self):
        couplings = all_couplings(3)
        lists = [[]] + [[one] for one in couplings] + [[one, two] for one in couplings for two in couplings]
        for layout in [LINE, [(-3, 2), (-2, 1), (-1, 3)], [(-3, 3)]]:
            self.check_values(3, layout, lists)

    def test_the_four_forms(self):
        self.assertIs(is_move(3, LINE, ([(-3, 2), (-2, 1)], [(-3, -2), (1, 2)])), True)
        self.assertIs(is_move(3, LINE, ([(-3, 2), (-2, 1)], [(-3, 1), (-2, 2)])), True)
        self.assertIs(is_move(3, LINE, ([(-3, 2)], [(-3, -1)])), True)
        self.assertIs(is_move(3, LINE, ([(-3, 2)], [(2, 3)])), True)
        self.assertIs(is_move(3, LINE, ([(-2, 1)], [])), True)
        self.assertIs(is_move(3, LINE, ([], [(-1, 3)])), True)

    def test_near_the_four_forms(self):
        for value in [
            ([], []), ([(-3, 2), (-2, 1)], []), ([], [(-3, 2), (-2, 1)]), ([], [(-3, 2)]), ([], [(-3, 3)]),
            ([], [(-2, 3)]), ([], [(-1, 1)]), ([(-3, 2), (-2, 1)], [(-3, 2), (-2, 1)]), ([(-3, 2)], [(-3, 2)]),
            ([(-3, 2)], [(-3, -2)]), ([(-3, 2)], [(-3, 1)]), ([(-3, 2)], [(-1, 3)]), ([(-3, 2)], [(-2, 1)]),
            ([(-3, 2), (-2, 1)], [(-3, -2)]), ([(-3, 2), (-2, 1)], [(-3, -2), (1, 3)]),
            ([(-3, 2), (-2, 1)], [(-3, -1), (1, 2)]), ([(-3, 2), (-2, 1)], [(-3, -2), (-3, 1)]),
            ([(-3, 2), (-2, 1)], [(-3, -2), (-2, 1)]), ([(-3, 2), (-2, 1)], [(-3, 2), (-3, 2)]),
            ([(-3, 2)], [(-3, -1), (2, 3)]), ([(-3, -2)], []), ([(-1, 3)], []), ([(-3, 2), (-1, 3)], []),
            ([(-3, 2), (-1, 3)], [(-3, -1), (2, 3)]), ([(-3, -2)], [(-3, -1)]), ([], [(-1, 4)]), ([], [(-4, 3)]),
            ([(-3, 2)], [(-3, 4)]), ([(-3, 2)], [(-3, 0)]), ([], [(-1, 0)]), ([], [(0, 3)]), ([], [(-1, -1)]),
            ([(-3, 2), (-2, 1), (-2, 1)], [(-3, -2), (1, 2)]), ([(-3, 2), (-2, 1)], [(-3, -2), (-3, -2), (1, 2)]),
        ]:
            self.assertIs(is_move(3, LINE, value), False, value)

    def test_not_ascending(self):
        for value in [
            ([(-2, 1), (-3, 2)], [(-3, -2), (1, 2)]), ([(-3, 2), (-2, 1)], [(1, 2), (-3, -2)]),
            ([(-3, 2), (-3, 2)], []), ([(-3, 2), (-3, 2)], [(-3, -1)]), ([], [(-1, 3), (-1, 3)]),
            ([(-2, 1), (-2, 1)], [(-3, -2), (1, 2)]), ([(-3, 2), (-2, 1)], [(1, 2), (1, 2)]),
        ]:
            self.assertIs(is_move(3, LINE, value), False, value)

    def test_the_greater_end_first(self):
        for value in [
            ([], [(3, -1)]), ([(2, -3)], []), ([(2, -3)], [(-3, -1)]), ([(-3, 2)], [(-1, -3)]),
            ([(-3, 2), (1, -2)], [(-3, -2), (1, 2)]), ([(-3, 2), (-2, 1)], [(-3, -2), (2, 1)]),
            ([(-3, 2), (-2, 1)], [(-2, -3), (1, 2)]),
        ]:
            self.assertIs(is_move(3, LINE, value), False, value)

    def test_other_kinds_in_the_place_of_lists_and_tuples(self):
        cut, joined = [(-3, 2)], [(-3, -1)]
        for value in [
            [cut, joined], (tuple(cut), joined), (cut, tuple(joined)), ([list(cut[0])], joined),
            (cut, [list(joined[0])]), ([list(cut[0])], []), ([], [[-1, 3]]), (cut, ()), ((), [(-1, 3)]),
            (cut, None), (None, [(-1, 3)]), (cut[0], joined), (cut, joined[0]), (cut,), (cut, joined, []),
            (cut, joined, None), ((cut, joined),), [(cut, joined)], {"cut": cut, "joined": joined}, cut, joined,
            ([cut], joined), (cut, [joined]), (cut, {}), (cut, ""), (cut, set()), ("", [(-1, 3)]),
            ({(-3, 2)}, joined), ({(-3, 2): 1}, joined), ("cut -3/2", "join -3/-1"), ([(-3, 2, 2)], []),
            ([(-3,)], []), ([()], []), ([], [()]), ([], [(-1, 3, 3)]), ([{-3, 2}], []), (["-32"], []),
        ]:
            self.assertIs(is_move(3, LINE, value), False, repr(value))

    def test_true_and_false_are_no_ends(self):
        for value in [
            ([(-2, True)], []), ([], [(-1, True)]), ([(-3, 2)], [(-3, True)]), ([(-3, 2), (-2, True)], []),
            ([(-3, 2), (-2, True)], [(-3, -2), (1, 2)]), ([(-3, 2), (-2, 1)], [(-3, -2), (True, 2)]),
            ([], [(False, 3)]), ([(-2, True)], [(-2, 3)]),
        ]:
            self.assertIs(is_move(3, LINE, value), False, value)
        self.assertIs(is_move(3, [], ([], [(-1, True)])), False)
        self.assertIs(is_move(3, [(-3, 2)], ([(-3, 2)], [(-3, True)])), False)

    def test_values_of_any_kind(self):
        for layout in [[], LINE, [(-1, 1)]]:
            for value in values_of_any_kind():
                for whole in [value, (value, []), ([], value), ([value], []), (value, value), ([], [(-60, value)]),
                              ([], [(value, 60)]), ([(-3, 2)], value), ([(-3, 2)], [value]), ([(-3, value)], [])]:
                    self.assertIs(is_move(60, layout, whole), False, repr(whole))

    def test_one_piece(self):
        self.assertIs(is_move(1, [], ([], [(-1, 1)])), True)
        self.assertIs(is_move(1, [], ([(-1, 1)], [])), False)
        self.assertIs(is_move(1, [(-1, 1)], ([(-1, 1)], [])), True)
        self.assertIs(is_move(1, [(-1, 1)], ([], [(-1, 1)])), False)
        self.assertIs(is_move(1, [(-1, 1)], ([(-1, 1)], [(-1, 1)])), False)

    def test_sixty_pieces(self):
        self.assertIs(is_move(60, [], ([], [(-60, 60)])), True)
        self.assertIs(is_move(60, [], ([], [(-61, 60)])), False)
        self.assertIs(is_move(60, LONG_ROW, ([], [(-1, 60)])), True)
        self.assertIs(is_move(60, LONG_RING, ([(-1, 60)], [])), True)
        self.assertIs(is_move(60, LONG_RING, ([(-60, 59), (-1, 60)], [(-60, -1), (59, 60)])), True)
        self.assertIs(is_move(60, LONG_RING, ([(-60, 59)], [(-60, 60)])), False)
        self.assertIs(is_move(60, LOOPS, ([(-60, 60), (-1, 1)], [(-60, -1), (1, 60)])), True)
        self.assertIs(is_move(60, LOOPS, ([(-60, 60), (-1, 1)], [(-60, 1), (-1, 60)])), True)
        self.assertIs(is_move(60, LOOPS, ([(-60, 60), (-1, 1)], [(-60, 60), (-1, 1)])), False)


class MovesOf(unittest.TestCase):
    def test_every_layout_of_few_pieces(self):
        for pieces in range(1, 4):
            for layout in all_layouts(pieces):
                moves = moves_by_forms(pieces, layout)
                self.assertEqual(moves_of(pieces, layout), moves)
                self.assertEqual(count_moves(pieces, layout), len(moves))

    def test_some_layouts_of_four_pieces(self):
        for layout in all_layouts(4)[::41]:
            self.assertEqual(moves_of(4, layout), moves_by_forms(4, layout))

    def test_twelve_pieces(self):
        line = [(-piece - 1, piece) for piece in range(11, 0, -1)]
        loops = [(-piece, piece) for piece in range(12, 0, -1)]
        for layout in [[], [(-12, 12)], line, sorted(line + [(-1, 12)]), loops, loops[::2]]:
            moves = moves_of(12, layout)
            self.assertEqual(len(moves), count_moves(12, layout))
            for move, behind in zip(moves, moves[1:]):
                self.assertLess(move, behind)
            for move in moves:
                self.assertTrue(is_move(12, layout, move))

    def test_count_for_all_numbers_of_pieces(self):
        for pieces in range(1, 61):
            for coupled in {0, 1, pieces // 2, pieces - 1, pieces}:
                opens = 2 * (pieces - coupled)
                layout = [(-piece, piece) for piece in range(coupled, 0, -1)]
                count = coupled * (coupled - 1) // 2 * 2 + coupled * 2 * opens + coupled + opens * (opens - 1) // 2
                self.assertEqual(count_moves(pieces, layout), count)
        self.assertEqual([count_moves(60, []), count_moves(60, LOOPS)], [7140, 3600])

    def test_one_piece(self):
        self.assertEqual(moves_of(1, []), [([], [(-1, 1)])])
        self.assertEqual(moves_of(1, [(-1, 1)]), [([(-1, 1)], [])])
        self.assertEqual([count_moves(1, []), count_moves(1, [(-1, 1)])], [1, 1])

    def test_all_forms_of_two_pieces(self):
        self.assertEqual(moves_of(2, [(-2, 1)]), [
            ([], [(-1, 2)]), ([(-2, 1)], []), ([(-2, 1)], [(-2, -1)]), ([(-2, 1)], [(-2, 2)]), ([(-2, 1)], [(-1, 1)]),
            ([(-2, 1)], [(1, 2)]),
        ])
        self.assertEqual(moves_of(2, [(-2, 1), (-1, 2)]), [
            ([(-2, 1)], []), ([(-2, 1), (-1, 2)], [(-2, -1), (1, 2)]), ([(-2, 1), (-1, 2)], [(-2, 2), (-1, 1)]),
            ([(-1, 2)], []),
        ])


class Moved(ErrorChecks, unittest.TestCase):
    def test_every_move_of_few_pieces_and_its_opposite(self):
        for pieces in range(1, 4):
            for layout in all_layouts(pieces):
                for move in moves_by_forms(pieces, layout):
                    after = moved(pieces, layout, move)
                    self.assertEqual(after, changed(pieces, layout, move))
                    opposite = (move[1], move[0])
                    self.assertTrue(is_move(pieces, after, opposite))
                    self.assertEqual(moved(pieces, after, opposite), layout)

    def test_the_four_forms(self):
        self.assertEqual(moved(3, LINE, ([(-3, 2), (-2, 1)], [(-3, 1), (-2, 2)])), [(-3, 1), (-2, 2)])
        self.assertEqual(moved(3, LINE, ([(-3, 2)], [(2, 3)])), [(-2, 1), (2, 3)])
        self.assertEqual(moved(3, LINE, ([(-2, 1)], [])), [(-3, 2)])
        self.assertEqual(moved(3, LINE, ([], [(-1, 3)])), [(-3, 2), (-2, 1), (-1, 3)])

    def test_sixty_pieces(self):
        self.assertEqual(moved(60, LONG_ROW, ([], [(-1, 60)])), LONG_RING)
        self.assertEqual(moved(60, LONG_RING, ([(-1, 60)], [])), LONG_ROW)
        self.assertEqual(moved(60, LOOPS, ([(-60, 60), (-1, 1)], [(-60, -1), (1, 60)])),
                         [(-60, -1)] + LOOPS[1:-1] + [(1, 60)])

    def test_invalid_move(self):
        values = [
            *values_of_any_kind(), ([], []), [[], [(-1, 3)]], ([], [(3, -1)]), ([], ((-1, 3),)), ([], [[-1, 3]]),
            ([(-3, 2)], [(-3, 2)]), ([(-2, 1), (-3, 2)], [(-3, -2), (1, 2)]), ([(-2, True)], []),
            ([(-3, 2), (-2, 1)], [(1, 2), (-3, -2)]), ([(-3, -2)], []), ([], [(-3, 3)]), ([], [(-1, 3)], []),
            ([(-3, 2), (-3, 2)], []), ([(-3, 2)], [(-3, 4)]), [([], [(-1, 3)])], ([(-3, 2), (-2, 1)], []),
        ]
        for function in [moved, kind_of]:
            for value in values:
                self.raised_string(InvalidMove, function, 3, LINE, value)
            for value in values_of_any_kind():
                self.raised_string(InvalidMove, function, 3, LINE, ([], value))
                self.raised_string(InvalidMove, function, 3, LINE, ([(-3, 2)], [value]))
                self.raised_string(InvalidMove, function, 3, LINE, ([value], []))
                self.raised_string(InvalidMove, function, 3, LINE, (value, [(-1, 3)]))


class KindOf(unittest.TestCase):
    def check_kinds(self, pieces, rows, rings, kinds):
        layout = layout_of(pieces, rows, rings)
        for move, kind in kinds:
            self.assertEqual(kind_of(pieces, layout, move), kind, (layout, move))
            after = moved(pieces, layout, move)
            self.assertEqual(kind_of(pieces, after, (move[1], move[0])), OPPOSITES[kind])

    def test_every_move_of_few_pieces_and_its_opposite(self):
        seen = set()
        for pieces in range(1, 4):
            for layout in all_layouts(pieces):
                for move in moves_by_forms(pieces, layout):
                    kind = kind_of(pieces, layout, move)
                    self.assertEqual(kind, kind_by_pieces(pieces, layout, move), (layout, move))
                    after = moved(pieces, layout, move)
                    self.assertEqual(kind_of(pieces, after, (move[1], move[0])), OPPOSITES[kind])
                    seen.add(kind)
        self.assertEqual(seen, set(OPPOSITES))

    def test_some_layouts_of_four_and_five_pieces(self):
        layouts = [(4, layout) for layout in all_layouts(4)[::53]] + [
            (5, layout_of(5, [[1, 2], [3, 4]], [[5]])), (5, layout_of(5, [[1]], [[2, -3], [4, 5]])),
            (5, layout_of(5, [[1, 2, 3]], [[4, 5]])),
        ]
        for pieces, layout in layouts:
            for move in moves_by_forms(pieces, layout):
                self.assertEqual(kind_of(pieces, layout, move), kind_by_pieces(pieces, layout, move), (layout, move))

    def test_one_coupling_or_none(self):
        self.check_kinds(1, [], [], [(([], [(-1, 1)]), "close")])
        self.check_kinds(1, [], [[1]], [(([(-1, 1)], []), "open")])
        self.check_kinds(2, [], [], [(([], [(-2, 1)]), "join"), (([], [(-2, -1)]), "join"), (([], [(-2, 2)]), "close")])
        self.check_kinds(2, [[1, 2]], [], [(([(-2, 1)], []), "cut"), (([], [(-1, 2)]), "close")])
        self.check_kinds(3, [], [[1, 2, 3]], [(([(-2, 1)], []), "open"), (([(-1, 3)], []), "open")])
        self.check_kinds(3, [[1, 2, 3]], [], [(([(-2, 1)], []), "cut"), (([], [(-1, 3)]), "close")])

    def test_a_coupling_and_an_open_end(self):
        row = [(-2, 1)]
        self.check_kinds(3, [[1, 2, 3]], [], [
            ((row, [(-1, 1)]), "let"), ((row, [(-2, -1)]), "turn"), ((row, [(-2, 3)]), "let"), ((row, [(1, 3)]), "turn"),
        ])
        self.check_kinds(3, [[1, 2], [3]], [], [
            ((row, [(1, 3)]), "exchange"), ((row, [(-3, 1)]), "exchange"), ((row, [(-2, 3)]), "exchange"),
            ((row, [(-3, -2)]), "exchange"),
        ])
        self.check_kinds(3, [[3]], [[1, 2]], [((row, [(1, 3)]), "take"), ((row, [(-3, -2)]), "take")])
        self.check_kinds(2, [[2]], [[1]], [(([(-1, 1)], [(-1, 2)]), "take"), (([(-1, 1)], [(-2, -1)]), "take")])

    def test_two_couplings(self):
        self.check_kinds(3, [[1, 2, 3]], [], [
            (([(-3, 2), (-2, 1)], [(-3, -2), (1, 2)]), "turn"), (([(-3, 2), (-2, 1)], [(-3, 1), (-2, 2)]), "let"),
        ])
        self.check_kinds(2, [], [[1, 2]], [
            (([(-2, 1), (-1, 2)], [(-2, -1), (1, 2)]), "turn"), (([(-2, 1), (-1, 2)], [(-2, 2), (-1, 1)]), "part"),
        ])
        self.check_kinds(2, [], [[1], [2]], [
            (([(-2, 2), (-1, 1)], [(-2, 1), (-1, 2)]), "merge"), (([(-2, 2), (-1, 1)], [(-2, -1), (1, 2)]), "merge"),
        ])
        self.check_kinds(3, [[1, 2]], [[3]], [
            (([(-3, 3), (-2, 1)], [(-3, 1), (-2, 3)]), "take"), (([(-3, 3), (-2, 1)], [(-3, -2), (1, 3)]), "take"),
        ])
        self.check_kinds(4, [[1, 2], [3, 4]], [], [
            (([(-4, 3), (-2, 1)], [(-4, 1), (-2, 3)]), "exchange"),
            (([(-4, 3), (-2, 1)], [(-4, -2), (1, 3)]), "exchange"),
        ])
        self.check_kinds(6, [], [[1, 2, 3], [4, 5, 6]], [
            (([(-5, 4), (-2, 1)], [(-5, 1), (-2, 4)]), "merge"), (([(-3, 2), (-2, 1)], [(-3, 1), (-2, 2)]), "part"),
            (([(-3, 2), (-2, 1)], [(-3, -2), (1, 2)]), "turn"),
        ])

    def test_sixty_pieces(self):
        whole = list(range(1, 61))
        half, rest = whole[:30], whole[30:]
        self.check_kinds(60, [whole], [], [
            (([], [(-1, 60)]), "close"), (([(-31, 30)], []), "cut"), (([(-31, 30)], [(-31, 60)]), "let"),
            (([(-31, 30)], [(30, 60)]), "turn"), (([(-41, 40), (-31, 30)], [(-41, 30), (-31, 40)]), "let"),
            (([(-41, 40), (-31, 30)], [(-41, -31), (30, 40)]), "turn"),
        ])
        self.check_kinds(60, [], [whole], [
            (([(-31, 30)], []), "open"), (([(-31, 30), (-1, 60)], [(-31, 60), (-1, 30)]), "part"),
            (([(-31, 30), (-1, 60)], [(-31, -1), (30, 60)]), "turn"),
        ])
        self.check_kinds(60, [half, rest], [], [
            (([], [(-31, 30)]), "join"), (([], [(30, 60)]), "join"), (([(-11, 10)], [(10, 60)]), "exchange"),
            (([(-51, 50), (-11, 10)], [(-51, 10), (-11, 50)]), "exchange"),
        ])
        self.check_kinds(60, [half], [rest], [
            (([(-51, 50)], [(30, 50)]), "take"), (([(-51, 50), (-11, 10)], [(-51, 10), (-11, 50)]), "take"),
        ])


class ArgumentsAndResults(unittest.TestCase):
    LAYOUTS = [[], LINE, [(-3, 2), (-2, 1), (-1, 3)], [(-3, 3), (-2, 2), (-1, 1)]]

    def test_arguments_stay(self):
        for layout in self.LAYOUTS:
            kept = snapshot(layout)
            moves_of(3, layout)
            count_moves(3, layout)
            self.assertEqual(layout, kept)
            for move in moves_by_forms(3, layout):
                kept_move = snapshot(move)
                for function in [is_move, moved, kind_of]:
                    function(3, layout, move)
                    self.assertEqual((layout, move), (kept, kept_move))
        for value in [([(-2, 1), (-3, 2)], [(1, 2), (-3, -2)]), ([], [(3, -1)]), [[], []]]:
            kept_value = snapshot(value)
            is_move(3, LINE, value)
            self.assertEqual(value, kept_value)

    def test_moves_are_new(self):
        for layout in self.LAYOUTS:
            first = moves_of(3, layout)
            kept = snapshot(first)
            lists = lists_in(first)
            self.assertEqual(len({id(found) for found in lists}), len(lists))
            self.assertNotIn(id(layout), [id(found) for found in lists])
            for found in lists:
                found.append((9, 10))
                found.reverse()
            self.assertEqual(moves_of(3, layout), kept)

    def test_layouts_are_new(self):
        for layout in self.LAYOUTS:
            for move in moves_by_forms(3, layout):
                first = moved(3, layout, move)
                kept, kept_move, kept_layout = list(first), snapshot(move), list(layout)
                first.append((9, 10))
                self.assertEqual((move, layout), (kept_move, kept_layout))
                self.assertEqual(moved(3, layout, move), kept)

    def test_kinds_of_results(self):
        for move in moves_of(3, LINE):
            self.assertIs(type(move), tuple)
            self.assertEqual([type(part) for part in move], [list, list])
            self.assertEqual({type(item) for part in move for item in part}, {tuple})
        self.assertEqual({type(item) for item in moved(3, LINE, ([], [(-1, 3)]))}, {tuple})
        self.assertIs(type(count_moves(3, LINE)), int)
        self.assertIs(type(kind_of(3, LINE, ([], [(-1, 3)]))), str)

    def test_ends_of_sixty_pieces(self):
        self.assertEqual(len(all_ends(60)), 120)
        self.assertEqual(rows_of(60, moved(60, LONG_ROW, ([(-31, 30)], []))),
                         [list(range(1, 31)), list(range(31, 61))])
        self.assertEqual(rings_of(60, moved(60, [], ([], [(-60, 60)]))), [[60]])


if __name__ == "__main__":
    unittest.main()
