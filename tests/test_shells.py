"""Points [13] and [21]."""

import fractions
import math
import random
import unittest

from crosshitch.errors import InvalidNumber
from crosshitch.layouts import count_layouts, partners_of
from crosshitch.overlay import fewest_moves
from crosshitch.shells import counts_by_moves, index_at, mean_moves, nth_at
from tests.graph import graph_of
from tests.helpers import ErrorChecks, all_ends, snapshot
from tests.laying import BACK, LONG_RING, LONG_ROW, LOOPS, PAIR, RING, some_layout


def counts_by_formula(pieces, couplings):
    """The numbers of layouts by their distance from a layout with so many couplings, as point [13] gives them."""
    opened = 2 * (pieces - couplings)
    counts = [0] * (pieces + 1)
    for j in range(opened // 2 + 1):
        i = opened - 2 * j
        ways = math.factorial(opened) // (math.factorial(i) * math.factorial(j) * 2 ** j)
        for m in range(couplings + 1):
            polynomial = [1]
            for h in range(couplings - m):
                factor = 2 * (i + j + m + h)
                polynomial = [factor * low + high for low, high in zip(polynomial + [0], [0] + polynomial)]
            for r, number in enumerate(polynomial):
                # The distance, by point [9].
                counts[pieces - r - i // 2] += ways * math.comb(couplings, m) * number
    while counts[-1] == 0:
        counts.pop()
    return counts


def first_couplings(pieces, many):
    return sorted((-piece, piece) for piece in range(1, pieces + 1))[:many]


class CountsByMoves(unittest.TestCase):
    def test_all_layouts_of_few_pieces(self):
        for pieces in range(1, 5):
            graph = graph_of(pieces)
            for number in range(0, len(graph.layouts), 1 if pieces < 4 else 17):
                distances = graph.distances[number]
                expected = [distances.count(moves) for moves in range(max(distances) + 1)]
                self.assertEqual(counts_by_moves(pieces, graph.layouts[number]), expected)
                mean = fractions.Fraction(sum(distances), len(distances))
                self.assertEqual(mean_moves(pieces, graph.layouts[number]), (mean.numerator, mean.denominator))

    def test_every_number_of_couplings(self):
        rnd = random.Random(12)
        for pieces in (1, 2, 5, 16, 31):
            for couplings in range(pieces + 1):
                expected = counts_by_formula(pieces, couplings)
                self.assertEqual(counts_by_moves(pieces, first_couplings(pieces, couplings)), expected)
                self.assertEqual(counts_by_moves(pieces, some_layout(pieces, couplings, rnd)), expected)
                self.assertEqual(sum(expected), count_layouts(pieces))

    def test_sixty_pieces(self):
        for layout in [[], LONG_RING, LOOPS, LONG_ROW, LOOPS[:40], LOOPS[:7]]:
            counts = counts_by_moves(60, layout)
            self.assertEqual(counts, counts_by_formula(60, len(layout)))
            self.assertEqual(sum(counts), count_layouts(60))
            self.assertEqual(counts[0], 1)
        self.assertEqual(counts_by_moves(60, LOOPS), counts_by_moves(60, LONG_RING))
        self.assertEqual(len(counts_by_moves(60, [])), 61)

    def test_the_next_layouts(self):
        for pieces in (3, 16, 60):
            for couplings in (0, 1, pieces // 2, pieces):
                layout = first_couplings(pieces, couplings)
                opened = 2 * (pieces - couplings)
                moves = couplings * (couplings - 1) + 2 * couplings * opened + couplings + opened * (opened - 1) // 2
                self.assertEqual(counts_by_moves(pieces, layout)[:2], [1, moves])

    def test_mean(self):
        for pieces in (1, 5, 16, 60):
            for couplings in (0, 1, pieces // 3, pieces):
                counts = counts_by_formula(pieces, couplings)
                mean = fractions.Fraction(sum(moves * many for moves, many in enumerate(counts)), sum(counts))
                answer = mean_moves(pieces, first_couplings(pieces, couplings))
                self.assertEqual(answer, (mean.numerator, mean.denominator))
                self.assertEqual([type(answer), *map(type, answer)], [tuple, int, int])
        self.assertEqual([mean_moves(1, []), mean_moves(1, [(-1, 1)])], [(1, 2), (1, 2)])

    def test_new_lists(self):
        layout = [(-2, 1)]
        counts_by_moves(2, layout).append(3)
        mean_moves(2, layout)
        self.assertEqual(layout, PAIR)
        self.assertEqual(counts_by_moves(2, []), [1, 6, 3])


class Numbers(ErrorChecks, unittest.TestCase):
    def check_numbers(self, pieces, layout, moves, layouts, numbers):
        for index in numbers:
            self.assertEqual(nth_at(pieces, layout, moves, index), layouts[index])
            self.assertEqual(index_at(pieces, layout, layouts[index]), index)
        for index in [len(layouts), len(layouts) + 1, 10 ** 199]:
            self.raised_string(InvalidNumber, nth_at, pieces, layout, moves, index)

    def test_all_layouts_of_few_pieces(self):
        for pieces in range(1, 4):
            graph = graph_of(pieces)
            for one, layout in enumerate(graph.layouts):
                distances = graph.distances[one]
                for moves in range(max(distances) + 2):
                    layouts = [graph.layouts[other] for other, distance in enumerate(distances) if distance == moves]
                    layouts = sorted(layouts, key=lambda other: partners_of(pieces, other))
                    self.check_numbers(pieces, layout, moves, layouts, range(len(layouts)))

    def test_four_pieces(self):
        graph = graph_of(4)
        for one in (0, 300, 763):
            distances = graph.distances[one]
            for moves in range(max(distances) + 1):
                layouts = [graph.layouts[other] for other, distance in enumerate(distances) if distance == moves]
                layouts = sorted(layouts, key=lambda other: partners_of(4, other))
                self.check_numbers(4, graph.layouts[one], moves, layouts, range(len(layouts)))

    def test_sixteen_pieces(self):
        rnd = random.Random(13)
        for couplings in (0, 1, 8, 15, 16):
            layout = some_layout(16, couplings, rnd)
            counts = counts_by_moves(16, layout)
            for moves, many in enumerate(counts):
                numbers = sorted({0, many - 1, many // 2, max(0, many // 2 - 1), rnd.randrange(many)})
                layouts = [nth_at(16, layout, moves, index) for index in numbers]
                partners = [partners_of(16, other) for other in layouts]
                self.assertEqual(partners, sorted(partners))
                for index, other in zip(numbers, layouts):
                    self.assertEqual(fewest_moves(16, layout, other), moves)
                    self.assertEqual(index_at(16, layout, other), index)
                for index in [many, many + 1, 10 ** 199]:
                    self.raised_string(InvalidNumber, nth_at, 16, layout, moves, index)
            for moves in [len(counts), 17, 32, 33, 10 ** 199]:
                self.raised_string(InvalidNumber, nth_at, 16, layout, moves, 0)

    def test_no_moves(self):
        for layout in [[], PAIR, RING, [(-16, -15)], [(-16, 16), (-15, 15)]]:
            self.assertEqual(nth_at(16, layout, 0, 0), layout)
            self.assertEqual(index_at(16, layout, list(layout)), 0)
            self.raised_string(InvalidNumber, nth_at, 16, layout, 0, 1)

    def test_one_piece(self):
        self.assertEqual([nth_at(1, [], 0, 0), nth_at(1, [], 1, 0)], [[], [(-1, 1)]])
        self.assertEqual([nth_at(1, [(-1, 1)], 0, 0), nth_at(1, [(-1, 1)], 1, 0)], [[(-1, 1)], []])
        for layout in [[], [(-1, 1)]]:
            for moves, index in [(0, 1), (1, 1), (2, 0), (2, 2)]:
                self.raised_string(InvalidNumber, nth_at, 1, layout, moves, index)

    def test_more_pieces(self):
        rnd = random.Random(14)
        for layout in [[], LOOPS, some_layout(60, 30, rnd)]:
            for moves in (1, 30, 59):
                many = counts_by_moves(60, layout)[moves]
                index = rnd.randrange(many)
                other = nth_at(60, layout, moves, index)
                self.assertEqual(fewest_moves(60, layout, other), moves)
                self.assertEqual(index_at(60, layout, other), index)

    def test_new_lists_and_arguments(self):
        one, other = some_layout(9, 5, random.Random(15)), some_layout(9, 7, random.Random(16))
        kept = snapshot((one, other))
        index, moves = index_at(9, one, other), fewest_moves(9, one, other)
        found = nth_at(9, one, moves, index)
        self.assertEqual(found, other)
        found.append((8, 9))
        self.assertEqual(nth_at(9, one, moves, index), other)
        same = nth_at(9, one, 0, 0)
        same.append((8, 9))
        self.assertEqual((one, other), kept)
        self.assertEqual({type(item) for item in other}, {tuple})

    def test_ascending_by_partners(self):
        layouts = [[(low, high)] for low in all_ends(2) for high in all_ends(2) if low < high]
        layouts = sorted(layouts, key=lambda layout: partners_of(2, layout))
        self.assertEqual([nth_at(2, [], 1, index) for index in range(6)], layouts)
        self.assertEqual(index_at(2, [], BACK), 3)


if __name__ == "__main__":
    unittest.main()
