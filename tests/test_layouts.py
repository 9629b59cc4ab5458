"""Points [4], [5], [6] and [16]."""

import itertools
import math
import unittest

from crosshitch.errors import InvalidEnd, InvalidRings, InvalidRows
from crosshitch.layouts import count_layouts, is_layout, layout_of, open_ends, partner_of, partners_of
from crosshitch.layouts import rings_of, rows_of
from tests.helpers import ErrorChecks, all_couplings, all_ends, all_layouts, coupled_ends, lists_in, snapshot
from tests.helpers import values_of_any_kind

LONG_ROW = [(-piece - 1, piece) for piece in range(59, 0, -1)]
LONG_RING = sorted(LONG_ROW + [(-1, 60)])
LOOPS = [(-piece, piece) for piece in range(60, 0, -1)]


def turned(reading):
    return [-number for number in reversed(reading)]


class IsLayout(unittest.TestCase):
    def test_every_list_of_up_to_three_pairs_of_ends_of_two_pieces(self):
        ends = all_ends(2)
        pairs = [(one, two) for one in ends for two in ends]
        layouts = all_layouts(2)
        for size in range(4):
            for items in itertools.product(pairs, repeat=size):
                value = list(items)
                self.assertIs(is_layout(2, value), value in layouts, value)

    def test_every_layout_of_three_pieces_in_any_sequence(self):
        for layout in all_layouts(3):
            for items in itertools.permutations(layout):
                self.assertIs(is_layout(3, list(items)), list(items) == layout)

    def test_one_piece(self):
        self.assertIs(is_layout(1, []), True)
        self.assertIs(is_layout(1, [(-1, 1)]), True)
        for value in [[(1, -1)], [(-1, -1)], [(1, 1)], [(-1, 1), (-1, 1)], [(0, 1)], [(-1, 0)], [(-1, 2)], [(-2, 1)]]:
            self.assertIs(is_layout(1, value), False, value)

    def test_sixty_pieces(self):
        for value in [[], [(-60, 60)], LONG_ROW, LONG_RING, LOOPS, [(59, 60)], [(-60, -59)]]:
            self.assertIs(is_layout(60, value), True, value)
        for value in [[(-61, 60)], [(60, 61)], LOOPS[::-1], LOOPS + [(59, 60)], LONG_RING + LONG_RING]:
            self.assertIs(is_layout(60, value), False, value)

    def test_an_end_stands_in_two_couplings(self):
        for value in [[(-3, -2), (-3, 1)], [(-3, -2), (-2, 1)], [(-3, 1), (-2, 1)], [(-3, 2), (1, 2)],
                      [(-3, -2), (-1, 1), (1, 3)], [(-3, 3), (-2, 2), (2, 3)]]:
            self.assertIs(is_layout(3, value), False, value)

    def test_values_of_any_kind(self):
        for value in values_of_any_kind():
            self.assertIs(is_layout(60, value), False, repr(value))

    def test_couplings_of_any_kind(self):
        for value in values_of_any_kind():
            self.assertIs(is_layout(60, [value]), False, repr(value))
            self.assertIs(is_layout(60, [(-2, 1), value]), False, repr(value))

    def test_ends_of_any_kind(self):
        for value in values_of_any_kind():
            for pair in [(-60, value), (value, 60), (value, value)]:
                self.assertIs(is_layout(60, [pair]), False, repr(value))

    def test_true_and_false_are_no_ends(self):
        for pair in [(-1, True), (True, 2), (False, 2), (-2, False)]:
            self.assertIs(is_layout(2, [pair]), False, pair)

    def test_other_kinds_in_the_place_of_lists_and_tuples(self):
        for value in [((-2, 1),), [[-2, 1]], ([-2, 1],), {(-2, 1): 0}, {(-2, 1)}, [{-2, 1}], [{-2: 0, 1: 0}], ["12"],
                      [(-2, 1, 2)], [(1,)], [()], [((-2, 1),)], iter([(-2, 1)])]:
            self.assertIs(is_layout(2, value), False, repr(value))

    def test_lists_with_many_items(self):
        self.assertIs(is_layout(60, [(-2, 1)] * 400), False)
        self.assertIs(is_layout(60, list(range(1, 401))), False)


class CountLayouts(unittest.TestCase):
    def test_few_pieces(self):
        for pieces in range(1, 5):
            self.assertEqual(count_layouts(pieces), len(all_layouts(pieces)))

    def test_all_numbers_of_pieces(self):
        for pieces in range(1, 61):
            ends = 2 * pieces
            count = 0
            for couplings in range(pieces + 1):
                ways = math.factorial(ends) // (math.factorial(ends - 2 * couplings) * math.factorial(couplings))
                count += ways // 2 ** couplings
            self.assertEqual(count_layouts(pieces), count)


class Ends(ErrorChecks, unittest.TestCase):
    def test_every_layout_of_few_pieces(self):
        for pieces in range(1, 4):
            for layout in all_layouts(pieces):
                self.check_ends(pieces, layout)

    def test_sixty_pieces(self):
        for layout in [[], [(-60, 60)], LONG_ROW, LONG_RING, LOOPS, [(-60, -59), (59, 60)]]:
            self.check_ends(60, layout)
        self.assertEqual(open_ends(60, []), all_ends(60))
        self.assertEqual(open_ends(60, LONG_ROW), [-1, 60])
        self.assertEqual(open_ends(60, LONG_RING), [])
        self.assertEqual(open_ends(60, LOOPS), [])
        self.assertEqual(partners_of(60, []), [0] * 120)
        self.assertEqual(partners_of(60, LOOPS), all_ends(60)[::-1])

    def check_ends(self, pieces, layout):
        partners = {}
        for low, high in layout:
            partners.update({low: high, high: low})
        opens = [end for end in all_ends(pieces) if end not in partners]
        self.assertEqual(open_ends(pieces, layout), opens)
        self.assertEqual(partners_of(pieces, layout), [partners.get(end, 0) for end in all_ends(pieces)])
        for end in all_ends(pieces):
            self.assertEqual(partner_of(pieces, layout, end), partners.get(end))
            if end in opens:
                self.assertIs(partner_of(pieces, layout, end), None)

    def test_invalid_end(self):
        for layout in [[], [(-2, 1)]]:
            for end in [*values_of_any_kind(), 3, -3, [1], [[1]], (1, 2), "-1", 4, 60]:
                self.raised_string(InvalidEnd, partner_of, 2, layout, end)
        for end in [-1, 1]:
            self.assertEqual(partner_of(1, [(-1, 1)], end), -end)
        self.raised_string(InvalidEnd, partner_of, 1, [(-1, 1)], 2)
        self.raised_string(InvalidEnd, partner_of, 1, [(-1, 1)], True)
        self.raised_string(InvalidEnd, partner_of, 60, [], 61)


class Readings(unittest.TestCase):
    def check_row(self, layout, row):
        coupled = coupled_ends(layout)
        self.assertNotIn(-row[0], coupled)
        self.assertNotIn(row[-1], coupled)
        for number, behind in zip(row, row[1:]):
            self.assertIn(tuple(sorted((number, -behind))), layout)
        self.assertIn(min(abs(number) for number in row), row)

    def check_ring(self, layout, ring):
        for number, behind in zip(ring, ring[1:] + ring[:1]):
            self.assertIn(tuple(sorted((number, -behind))), layout)
        self.assertEqual(ring[0], min(abs(number) for number in ring))

    def check_readings(self, pieces, layout):
        rows, rings = rows_of(pieces, layout), rings_of(pieces, layout)
        self.assertEqual(sorted(abs(number) for reading in rows + rings for number in reading),
                         list(range(1, pieces + 1)))
        for row in rows:
            self.check_row(layout, row)
        for ring in rings:
            self.check_ring(layout, ring)
        self.assertEqual(rows, sorted(rows))
        self.assertEqual(rings, sorted(rings))
        return rows, rings

    def test_every_layout_of_few_pieces(self):
        for pieces in range(1, 5):
            for layout in all_layouts(pieces):
                rows, rings = self.check_readings(pieces, layout)
                self.assertEqual(layout_of(pieces, rows, rings), layout)
                self.assertEqual(layout_of(pieces, [row for row in rows if len(row) > 1], rings), layout)

    def test_sixty_pieces(self):
        whole = list(range(1, 61))
        apart = [[piece] for piece in whole]
        for layout, rows, rings in [([], apart, []), (LONG_ROW, [whole], []), (LONG_RING, [], [whole]),
                                    (LOOPS, [], apart), ([(-60, 60)], apart[:-1], [[60]])]:
            self.check_readings(60, layout)
            self.assertEqual(rows_of(60, layout), rows)
            self.assertEqual(rings_of(60, layout), rings)
            self.assertEqual(layout_of(60, rows, rings), layout)

    def test_one_piece(self):
        self.assertEqual([rows_of(1, []), rings_of(1, [])], [[[1]], []])
        self.assertEqual([rows_of(1, [(-1, 1)]), rings_of(1, [(-1, 1)])], [[], [[1]]])

    def test_normal_readings(self):
        self.assertEqual(rows_of(3, layout_of(3, [[2, -1, 3]], [])), [[-3, 1, -2]])
        self.assertEqual(rows_of(3, layout_of(3, [[-2, 1, -3]], [])), [[-2, 1, -3]])
        self.assertEqual(rows_of(3, layout_of(3, [[3, 2]], [])), [[1], [3, 2]])
        self.assertEqual(rows_of(3, layout_of(3, [[-3, 1]], [])), [[-3, 1], [2]])
        self.assertEqual(rings_of(3, layout_of(3, [], [[3, -2, -1]])), [[1, 2, -3]])
        self.assertEqual(rings_of(4, layout_of(4, [], [[4, -3], [-2]])), [[2], [3, -4]])
        self.assertEqual(rows_of(4, layout_of(4, [], [[4, -3], [-2]])), [[1]])


class LayoutOf(ErrorChecks, unittest.TestCase):
    def test_no_readings(self):
        for pieces in (1, 2, 60):
            self.assertEqual(layout_of(pieces, [], []), [])
            self.assertEqual(layout_of(pieces, [[-pieces]], []), [])

    def test_every_reading_of_three_pieces(self):
        for sequence in itertools.permutations([1, 2, 3]):
            for signs in itertools.product([1, -1], repeat=3):
                reading = [number * sign for number, sign in zip(sequence, signs)]
                self.check_row_and_ring(reading)

    def check_row_and_ring(self, reading):
        row = sorted(tuple(sorted((number, -behind))) for number, behind in zip(reading, reading[1:]))
        ring = sorted(row + [tuple(sorted((reading[-1], -reading[0])))])
        for other in [reading, turned(reading)]:
            self.assertEqual(layout_of(3, [other], []), row)
            for at in range(3):
                self.assertEqual(layout_of(3, [], [other[at:] + other[:at]]), ring)

    def test_readings_that_are_not_normal(self):
        layout = [(-6, 6), (-5, 4), (-4, 5), (-3, -2), (1, 2)]
        for row in [[1, -2, 3], [-3, 2, -1]]:
            for ring in [[4, 5], [5, 4], [-4, -5], [-5, -4]]:
                for loop in [[6], [-6]]:
                    for rows in [[row], [row, [7]], [[-7], row]]:
                        for rings in [[ring, loop], [loop, ring]]:
                            self.assertEqual(layout_of(7, rows, rings), layout)

    def test_any_sequence(self):
        rows, rings = [[1, -8], [4, 2], [5]], [[3], [-6, 7], [-9]]
        layout = [(-9, 9), (-7, -6), (-3, 3), (-2, 4), (1, 8), (6, 7)]
        for some in itertools.permutations(rows):
            for others in itertools.permutations(rings):
                self.assertEqual(layout_of(9, list(some), list(others)), layout)

    def test_rings_of_one_piece(self):
        self.assertEqual(layout_of(1, [], [[1]]), [(-1, 1)])
        self.assertEqual(layout_of(1, [], [[-1]]), [(-1, 1)])
        self.assertEqual(layout_of(60, [], [[-piece] for piece in range(1, 61)]), LOOPS)

    def wrong_readings(self):
        """Lists of readings of three pieces, each with the index that an error has, with nothing ahead."""
        wrong = [
            ([[]], 0), ([[1], []], 1), ([[0]], 0), ([[4]], 0), ([[-4]], 0), ([[1, 4]], 0), ([[True]], 0),
            ([[2, True]], 0), ([[2], [3], [True]], 2), ([[False]], 0), ([[1, 1]], 0), ([[1, -1]], 0),
            ([[1, 2, -1]], 0), ([[3], [2, 1, 2]], 1), ([[1], [1]], 1), ([[1], [-1]], 1), ([[1, 2], [3, -2]], 1),
            ([[1], [2], [3], [1]], 3), ([[1], [2], [2], []], 2), ([[1], (2,)], 1), ([(1, 2)], 0), ([1, 2], 0),
            ([[1], 2], 1), ([[[1]]], 0), ([["1"]], 0), (["1"], 0), ([[1, None]], 0), ([[10 ** 199]], 0),
            ([{1: 2}], 0), ([{1, 2}], 0), ([range(1, 3)], 0), ([[1], [5], [0]], 1),
        ]
        not_lists = [(value, None) for value in values_of_any_kind() if not isinstance(value, list)]
        not_lists += [(([1, 2],), None), (([1], [2]), None), ({1: [1]}, None)]
        items = [([[1], value], 1) for value in values_of_any_kind()]
        numbers = [([[2], [3, value]], 1) for value in values_of_any_kind()]
        return wrong + not_lists + items + numbers

    def test_invalid_rows(self):
        for rows, index in self.wrong_readings():
            self.raised_index(InvalidRows, index, layout_of, 3, rows, [])

    def test_invalid_rings(self):
        for rings, index in self.wrong_readings():
            self.raised_index(InvalidRings, index, layout_of, 3, [], rings)

    def test_rings_with_pieces_of_the_rows(self):
        for rings, index in [([[1]], 0), ([[-1]], 0), ([[3], [2]], 1), ([[3, 4], [5, -2], [1]], 1),
                             ([[3], [4], [5], [-1, 6]], 3), ([[3], [3], [1]], 1)]:
            self.raised_index(InvalidRings, index, layout_of, 6, [[1, -2]], rings)

    def test_rows_are_ahead_of_rings(self):
        for rows, index in [([[]], 0), ([[1], [1]], 1), (None, None), ((), None)]:
            for rings in [[[1]], [[]], None, (), [[3], [3]], []]:
                self.raised_index(InvalidRows, index, layout_of, 3, rows, rings)

    def test_one_list_for_rows_and_rings(self):
        readings = [[1, 2]]
        self.raised_index(InvalidRings, 0, layout_of, 3, readings, readings)
        nothing = []
        self.assertEqual(layout_of(3, nothing, nothing), [])


class ArgumentsAndResults(unittest.TestCase):
    LAYOUTS = [[], [(-3, 2), (-2, 1)], [(-3, -2), (1, 2)], [(-3, 2), (-2, 1), (-1, 3)], [(-3, 3), (-2, 2), (-1, 1)]]
    FUNCTIONS = [open_ends, partners_of, rows_of, rings_of]

    def test_arguments_stay(self):
        for layout in self.LAYOUTS:
            kept = snapshot(layout)
            for function in [is_layout, *self.FUNCTIONS]:
                function(3, layout)
                self.assertEqual(layout, kept)
            partner_of(3, layout, 2)
            self.assertEqual(layout, kept)
        for value in [[(-2, 1), (-3, 2)], [(1, -2)], [(-2, 1), (-2, 1)]]:
            kept = snapshot(value)
            is_layout(3, value)
            self.assertEqual(value, kept)

    def test_readings_stay(self):
        rows, rings = [[3, -1], [-2]], [[5, -4], [-6]]
        kept = snapshot((rows, rings))
        layout_of(7, rows, rings)
        self.assertEqual((rows, rings), kept)

    def test_results_are_new(self):
        for layout in self.LAYOUTS:
            for function in self.FUNCTIONS:
                first = function(3, layout)
                kept = snapshot(first)
                lists = lists_in(first)
                self.assertEqual(len({id(found) for found in lists}), len(lists))
                self.assertNotIn(id(layout), [id(found) for found in lists])
                for found in lists:
                    found.append(99)
                    found.reverse()
                self.assertEqual(function(3, list(layout)), kept)
                self.assertEqual(function(3, layout), kept)

    def test_layouts_are_new(self):
        for rows, rings in [([], []), ([[1, 2]], []), ([], [[1]]), ([[1]], [[2, 3]])]:
            first = layout_of(3, rows, rings)
            kept = list(first)
            first.append((9, 10))
            self.assertEqual(layout_of(3, rows, rings), kept)

    def test_kinds_of_results(self):
        self.assertIs(type(count_layouts(3)), int)
        self.assertEqual({type(item) for item in layout_of(3, [[1, 2]], [[3]])}, {tuple})
        for function in self.FUNCTIONS:
            self.assertIs(type(function(3, [(-3, 2)])), list)
        for readings in [rows_of(3, [(-3, 2)]), rings_of(3, [(-1, 1)])]:
            self.assertEqual({type(item) for item in readings}, {list})

    def test_couplings_are_ascending(self):
        couplings = all_couplings(3)
        self.assertEqual(couplings, sorted(couplings))
        for coupling in couplings:
            self.assertTrue(is_layout(3, [coupling]))


if __name__ == "__main__":
    unittest.main()
