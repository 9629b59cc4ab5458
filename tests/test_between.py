"""Points [11], [12] and [20]."""

import math
import random
import unittest

from crosshitch.between import all_between, count_between, counts_between, first_behind, is_between, last_ahead
from crosshitch.errors import MixedWays, NotBetween, TooMany
from crosshitch.lists import count_through, good_moves
from crosshitch.moves import moved
from crosshitch.overlay import components_of, fewest_moves, shortest
from tests.graph import graph_of
from tests.helpers import ErrorChecks, lists_in, snapshot
from tests.laying import BACK, BENT, LINE, LONG_RING, LONG_ROW, LOOPS, PAIR, RING, laid, some_kinds, some_layout
from tests.laying import some_pairs


def times(one, other):
    """The product of two polynomials, as lists of their coefficients."""
    product = [0] * (len(one) + len(other) - 1)
    for at, some in enumerate(one):
        for more, others in enumerate(other):
            product[at + more] += some * others
    return product


def plus(*polynomials):
    total = [0] * max(map(len, polynomials))
    for polynomial in polynomials:
        for at, some in enumerate(polynomial):
            total[at] += some
    return total


def partings(d):
    """N(d) of point [11]."""
    return [math.comb(d, g) * math.comb(d, g - 1) // d for g in range(1, d + 1)]


def met(k, l):
    """The numbers of layouts in which ends of two ways are coupled, as point [11] gives them."""
    q, less = [0, 1], [-1]
    return times([2], plus(partings(k + l + 1), times(less, times(q, times(partings(k + 1), partings(l)))),
                           times(less, times(partings(k), partings(l + 1))),
                           times(q, times(partings(k), partings(l)))))


def counts_by_pairs(kinds):
    """The numbers of layouts between, each way of `one` in turn with each way of `other` or with none."""
    ones = [cost for word, cost in kinds if word == "one"]
    alone = [1]
    for word, cost in kinds:
        if word in ("ring", "odd"):
            alone = times(alone, partings(cost + 1))

    def counts(at, others):
        if at == len(ones):
            product = [1]
            for cost in others:
                product = times(product, partings(cost + 1))
            return product
        found = times(partings(ones[at] + 1), counts(at + 1, others))
        for place, other in enumerate(others):
            found = plus(found, times(met(ones[at], other), counts(at + 1, others[:place] + others[place + 1:])))
        return found

    total = times(alone, counts(0, [cost for word, cost in kinds if word == "other"]))
    while total[-1] == 0:
        total.pop()
    return total


class IsBetween(unittest.TestCase):
    def test_all_layouts_of_few_pieces(self):
        for pieces in range(1, 3):
            graph = graph_of(pieces)
            numbers = range(len(graph.layouts))
            for one, other, third in [(one, other, third) for one in numbers for other in numbers for third in numbers]:
                self.assertIs(is_between(pieces, *[graph.layouts[number] for number in (one, other, third)]),
                              graph.is_between(one, other, third))

    def test_three_pieces(self):
        graph = graph_of(3)
        for one in range(len(graph.layouts)):
            for other in range(len(graph.layouts)):
                for third in [(one * 5 + other * 11) % 76, (one + other) % 76, one, other]:
                    self.assertIs(is_between(3, *[graph.layouts[number] for number in (one, other, third)]),
                                  graph.is_between(one, other, third))

    def test_sixty_pieces(self):
        self.assertIs(is_between(60, LONG_RING, LOOPS, LONG_ROW), False)
        self.assertIs(is_between(60, LOOPS, [], LOOPS[::2]), True)
        self.assertIs(is_between(60, LOOPS, [], LOOPS), True)
        self.assertIs(is_between(60, LOOPS, [], []), True)
        self.assertIs(is_between(60, LOOPS, LOOPS, LOOPS), True)
        self.assertIs(is_between(60, LOOPS, LOOPS, LOOPS[1:]), False)
        self.assertIs(is_between(60, LONG_RING, LOOPS, []), False)
        for one, other in some_pairs(8, 20, 60):
            now = one
            for move in shortest(60, one, other):
                now = moved(60, now, move)
                self.assertIs(is_between(60, one, other, now), True)
                self.assertIs(is_between(60, one, now, other), now == other)


class Counts(unittest.TestCase):
    def test_all_layouts_of_few_pieces(self):
        for pieces in range(1, 4):
            graph = graph_of(pieces)
            for one, layout in enumerate(graph.layouts):
                for other, goal in enumerate(graph.layouts):
                    between = graph.between(one, other)
                    distances = [graph.distances[one][third] for third in between]
                    expected = [distances.count(moves) for moves in range(graph.distances[one][other] + 1)]
                    self.assertEqual(counts_between(pieces, layout, goal), expected, (layout, goal))
                    self.assertEqual(count_between(pieces, layout, goal), len(between), (layout, goal))

    def test_numbers_of_the_document(self):
        self.assertEqual([partings(1), partings(2), partings(3)], [[1], [1, 1], [1, 3, 1]])
        self.assertEqual(met(1, 1)[:3], [0, 4, 0])
        self.assertEqual(counts_between(2, *laid(2, [("one", 1), ("other", 1)])), [1, 6, 1])
        self.assertEqual(counts_between(3, *laid(3, [("ring", 2)])), [1, 3, 1])

    def check_counts(self, pieces, one, other, expected):
        self.assertEqual(counts_between(pieces, one, other), expected)
        self.assertEqual(counts_between(pieces, other, one), expected[::-1])
        self.assertEqual(count_between(pieces, one, other), sum(expected))

    def test_one_component(self):
        for cost in [*range(20), 58, 59]:
            for kinds in [[("ring", cost)], [("odd", cost)], [("one", cost + 1)], [("other", cost + 1)]]:
                one, other = laid(60, kinds)
                self.check_counts(60, one, other, partings(kinds[0][1] + 1))
        self.check_counts(60, LONG_RING, LOOPS, partings(60))
        self.check_counts(60, LOOPS, [], [math.comb(60, moves) for moves in range(61)])

    def test_every_two_ways(self):
        for k, l in [(k, l) for k in range(1, 12) for l in range(1, 12)] + [(1, 59), (59, 1), (30, 30), (17, 43)]:
            kinds = [("one", k), ("other", l)]
            self.check_counts(60, *laid(60, kinds), counts_by_pairs(kinds))

    def test_several_components(self):
        rnd = random.Random(9)
        for _ in range(40):
            kinds = some_kinds(rnd.choice([12, 30, 120]), rnd, most=rnd.choice([3, 9, 25]))
            ways = [kind for kind in kinds if kind[0] in ("one", "other")][:7]
            kinds = ways + [kind for kind in kinds if kind[0] in ("ring", "odd")]
            self.check_counts(60, *laid(60, kinds), counts_by_pairs(kinds))

    def test_many_ways(self):
        kinds = [("one", 1)] * 30 + [("other", 1)] * 30
        expected = [0] * 61
        for pairs in range(31):
            for moves in range(60 - 2 * pairs + 1):
                number = math.comb(30, pairs) ** 2 * math.factorial(pairs) * 4 ** pairs
                expected[moves + pairs] += number * math.comb(60 - 2 * pairs, moves)
        self.check_counts(60, *laid(60, kinds), expected)
        few = [("one", 1), ("one", 2), ("one", 2), ("one", 3)]
        many = [("other", 1)] * 3 + [("other", 2), ("other", 4)]
        self.check_counts(60, *laid(60, few + many), counts_by_pairs(few + many))

    def test_by_moves(self):
        for one, other in some_pairs(10, 12, 16):
            counts = counts_between(16, one, other)
            self.assertEqual(len(counts), fewest_moves(16, one, other) + 1)
            self.assertEqual([counts[0], counts[-1]], [1, 1])
            if one != other:
                self.assertEqual(counts[1], len(good_moves(16, one, other)))
                self.assertEqual(counts[-2], len(good_moves(16, other, one)))

    def test_two_equal_layouts(self):
        for layout in [[], PAIR, RING, LOOPS]:
            self.check_counts(60, layout, list(layout), [1])

    def test_new_lists(self):
        first = counts_between(2, PAIR, BACK)
        first.append(5)
        self.assertEqual(counts_between(2, PAIR, BACK), [1, 6, 1])


class AllBetween(ErrorChecks, unittest.TestCase):
    def test_all_layouts_of_few_pieces(self):
        for pieces in range(1, 4):
            graph = graph_of(pieces)
            for one, layout in enumerate(graph.layouts):
                for other, goal in enumerate(graph.layouts):
                    expected = [graph.layouts[third] for third in graph.between(one, other)]
                    self.assertEqual(all_between(pieces, layout, goal), expected, (layout, goal))

    def check_all(self, pieces, one, other):
        found = all_between(pieces, one, other)
        counts = counts_between(pieces, one, other)
        self.assertEqual(found, sorted(found))
        self.assertEqual(len({tuple(layout) for layout in found}), sum(counts))
        distances = [fewest_moves(pieces, one, layout) for layout in found]
        self.assertEqual([distances.count(moves) for moves in range(len(counts))], counts)
        for layout in found:
            self.assertIs(is_between(pieces, one, other, layout), True)
        return found

    def test_up_to_five_hundred(self):
        for kinds, number in [([("ring", 2)] * 3 + [("odd", 1)] * 2, 500), ([("one", 6)], 429), ([("other", 6)], 429),
                              ([("ring", 6)], 429), ([("odd", 6)], 429), ([("odd", 1)] * 8, 256),
                              ([("one", 1), ("one", 1), ("other", 1)], 24)]:
            for pieces in (20, 60):
                self.assertEqual(len(self.check_all(pieces, *laid(pieces, kinds))), number, kinds)

    def test_ways_that_meet(self):
        for kinds in [[("one", 2), ("other", 3)], [("one", 3), ("other", 2)], [("one", 4), ("other", 1)],
                      [("one", 1), ("other", 4)], [("one", 1), ("one", 1), ("other", 1), ("other", 1)],
                      [("one", 1), ("one", 2), ("other", 1), ("ring", 1)], [("one", 1), ("other", 1), ("other", 2)],
                      [("one", 1), ("other", 1), ("odd", 2), ("ring", 2)]]:
            for pieces in (20, 60):
                found = self.check_all(pieces, *laid(pieces, kinds))
                self.assertEqual(len(found), sum(counts_by_pairs(kinds)), kinds)

    def test_too_many(self):
        for kinds in [[("odd", 1)] * 9, [("ring", 7)], [("one", 59), ("other", 1)], [("ring", 59)],
                      [("one", 1), ("other", 5)], [("ring", 2)] * 2 + [("odd", 1)] * 2 + [("one", 1), ("other", 1)]]:
            one, other = laid(60, kinds)
            self.assertGreater(count_between(60, one, other), 500)
            caught = self.raised(TooMany, all_between, 60, one, other)
            self.assertEqual(caught.limit, 500)
            self.raised(TooMany, all_between, 60, other, one)
        self.assertEqual(count_between(60, *laid(60, [("odd", 1)] * 9)), 512)

    def test_sixty_pieces(self):
        for layout in [[], LOOPS, LONG_ROW]:
            self.assertEqual(all_between(60, layout, list(layout)), [layout])
        self.assertEqual(all_between(60, LOOPS, LOOPS[1:]), [LOOPS, LOOPS[1:]])
        self.assertEqual(all_between(60, LONG_ROW, LONG_RING), [LONG_ROW, LONG_RING])
        # A piece more that both layouts couple alike does not change how many there are.
        one, other = laid(60, [("ring", 3), ("odd", 2), ("one", 1)] + [("ring", 0)] * 52)
        self.assertEqual(len(self.check_all(60, one, other)), 14 * 5 * 2)

    def test_new_lists(self):
        first = all_between(2, PAIR, BACK)
        kept = snapshot(first)
        lists = lists_in(first)
        self.assertEqual(len({id(found) for found in lists}), len(lists))
        for found in lists:
            found.append((9, 10))
        self.assertEqual(all_between(2, PAIR, BACK), kept)
        self.assertEqual((PAIR, BACK), ([(-2, 1)], [(-1, 2)]))
        only = all_between(2, PAIR, [(-2, 1)])
        only[0].append((8, 9))
        self.assertEqual(PAIR, [(-2, 1)])


def words_of(pieces, one, other):
    return {word for word, _ in components_of(pieces, one, other)}


class FirstAndLast(ErrorChecks, unittest.TestCase):
    def check_by_graph(self, graph, one, other, third, fourth):
        between = graph.between(one, other)
        behind = [layout for layout in between
                  if graph.is_between(one, layout, third) and graph.is_between(one, layout, fourth)]
        ahead = [layout for layout in between
                 if graph.is_between(one, third, layout) and graph.is_between(one, fourth, layout)]
        first = [layout for layout in behind if all(graph.is_between(one, more, layout) for more in behind)]
        last = [layout for layout in ahead if all(graph.is_between(one, layout, more) for more in ahead)]
        layouts = [graph.layouts[number] for number in (one, other, third, fourth)]
        self.assertEqual([first_behind(graph.pieces, *layouts)], [graph.layouts[number] for number in first], layouts)
        self.assertEqual([last_ahead(graph.pieces, *layouts)], [graph.layouts[number] for number in last], layouts)

    def check_pair(self, graph, one, other, chosen):
        layouts = [graph.layouts[number] for number in (one, other)]
        mixed = {"one", "other"} <= words_of(graph.pieces, *layouts)
        for third, fourth in chosen:
            if mixed:
                for function in (first_behind, last_ahead):
                    self.raised_string(MixedWays, function, graph.pieces, *layouts, graph.layouts[third],
                                       graph.layouts[fourth])
            else:
                self.check_by_graph(graph, one, other, third, fourth)

    def test_all_layouts_of_few_pieces(self):
        for pieces in range(1, 3):
            graph = graph_of(pieces)
            for one in range(len(graph.layouts)):
                for other in range(len(graph.layouts)):
                    between = graph.between(one, other)
                    self.check_pair(graph, one, other, [(third, fourth) for third in between for fourth in between])

    def test_three_pieces(self):
        graph = graph_of(3)
        for one in range(len(graph.layouts)):
            for other in range(len(graph.layouts)):
                between = graph.between(one, other)
                at = one * 7 + other * 3
                chosen = [(between[at % len(between)], between[at // 4 % len(between)]), (one, between[at % len(between)])]
                self.check_pair(graph, one, other, chosen)

    def test_all_layouts_between_some_of_three_and_four_pieces(self):
        for pieces, kinds in [(3, [("ring", 2)]), (3, [("one", 3)]), (3, [("other", 3)]), (3, [("odd", 2), ("odd", 0)]),
                              (4, [("ring", 3)]), (4, [("other", 4)]), (4, [("one", 2), ("one", 2)])]:
            graph = graph_of(pieces)
            one, other = [graph.numbers[tuple(layout)] for layout in laid(pieces, kinds)]
            between = graph.between(one, other)
            pairs = [(third, fourth) for third in between for fourth in between]
            self.check_pair(graph, one, other, pairs if pieces == 3 else pairs[::3])

    def check_many_pieces(self, pieces, one, other, third, fourth, others):
        """All that makes a layout the first one behind both, and one the last ahead of both, against others between."""
        first = first_behind(pieces, one, other, third, fourth)
        last = last_ahead(pieces, one, other, third, fourth)
        for layout in (third, fourth):
            self.assertIs(is_between(pieces, one, first, layout), True)
            self.assertIs(is_between(pieces, one, layout, last), True)
            self.assertIs(is_between(pieces, one, other, first), True)
            self.assertIs(is_between(pieces, one, other, last), True)
        for layout in others:
            behind = all(is_between(pieces, one, layout, ahead) for ahead in (third, fourth))
            self.assertIs(is_between(pieces, one, layout, first), behind)
            ahead = all(is_between(pieces, one, back, layout) for back in (third, fourth))
            self.assertIs(is_between(pieces, one, last, layout), ahead)

    def test_all_layouts_between_of_more_pieces(self):
        for kinds in [[("ring", 4)], [("one", 4)], [("other", 4)], [("odd", 4)], [("ring", 2), ("other", 2)],
                      [("other", 1), ("other", 1), ("odd", 2)], [("one", 2), ("odd", 1), ("ring", 1)]]:
            one, other = laid(8, kinds)
            between = all_between(8, one, other)
            for at, third in enumerate(between[::3]):
                self.check_many_pieces(8, one, other, third, between[at * 5 % len(between)], between)

    def layout_between(self, one, other, rnd):
        """A layout between two of sixty pieces, some good moves from the first one."""
        now = one
        for _ in range(rnd.randint(0, 25)):
            moves = good_moves(60, now, other)
            if moves:
                now = moved(60, now, rnd.choice(moves))
        return now

    def test_sixty_pieces(self):
        rnd = random.Random(11)
        for kinds in [[("ring", 59)], [("one", 60)], [("other", 60)], [("odd", 59), ("odd", 0)],
                      [("ring", 9), ("odd", 9), ("one", 20), ("one", 19)], [("other", 7)] * 4 + [("ring", 15)],
                      [("odd", 4)] * 12]:
            one, other = laid(60, kinds)
            layouts = [self.layout_between(one, other, rnd) for _ in range(4)]
            for third, fourth in [(0, 1), (2, 3), (1, 1)]:
                third, fourth = layouts[third], layouts[fourth]
                self.check_many_pieces(60, one, other, third, fourth, layouts + [one, other])
                self.assertEqual(first_behind(60, one, other, fourth, third), first_behind(60, one, other, third, fourth))
                self.assertEqual(last_ahead(60, one, other, fourth, third), last_ahead(60, one, other, third, fourth))
            for layout in layouts:
                for function in (first_behind, last_ahead):
                    self.assertEqual(function(60, one, other, layout, layout), layout)
                self.assertEqual(first_behind(60, one, other, layout, one), layout)
                self.assertEqual(last_ahead(60, one, other, layout, one), one)
                self.assertEqual(first_behind(60, one, other, layout, other), other)
                self.assertEqual(last_ahead(60, one, other, layout, other), layout)

    def test_two_equal_layouts(self):
        for layout in [[], PAIR, RING, LOOPS]:
            for function in (first_behind, last_ahead):
                self.assertEqual(function(60, layout, list(layout), list(layout), list(layout)), layout)

    def test_not_between(self):
        for third, fourth in [(LINE, LONG_ROW), (LONG_ROW, LONG_RING), (LONG_RING, []), ([], []), ([], LOOPS)]:
            for function in (first_behind, last_ahead):
                self.raised_string(NotBetween, function, 60, LONG_RING, LOOPS, third, fourth)
        for function in (first_behind, last_ahead):
            # It comes ahead of the other error.
            self.raised_string(NotBetween, function, 2, PAIR, BACK, [(-2, -1), (1, 2)], [])
            self.raised_string(NotBetween, function, 2, PAIR, BACK, [], [(-2, 2), (-1, 1)])
            self.raised_string(MixedWays, function, 2, PAIR, BACK, [], [])
            self.raised_string(MixedWays, function, 2, PAIR, BACK, PAIR, BACK)
            self.raised_string(NotBetween, function, 3, LINE, BENT, LINE, [])
            self.raised_string(NotBetween, function, 3, LINE, LINE, LINE, BENT)

    def test_mixed_ways_of_sixty_pieces(self):
        one, other = laid(60, [("one", 20), ("other", 20), ("ring", 19)])
        for function in (first_behind, last_ahead):
            self.raised_string(MixedWays, function, 60, one, other, one, other)
            self.raised_string(MixedWays, function, 60, other, one, one, other)
            self.raised_string(NotBetween, function, 60, one, other, one, some_layout(60, 60, random.Random(1)))

    def test_new_lists_and_arguments(self):
        one, other = laid(8, [("ring", 5), ("odd", 1)])
        third, fourth = all_between(8, one, other)[3], all_between(8, one, other)[40]
        kept = snapshot((one, other, third, fourth))
        for function in (first_behind, last_ahead):
            for layouts in [(third, fourth), (one, one), (other, other), (third, third)]:
                found = function(8, one, other, *layouts)
                kept_found = list(found)
                found.append((9, 10))
                self.assertEqual((one, other, third, fourth), kept)
                self.assertEqual(function(8, one, other, *layouts), kept_found)
        for function, more in [(is_between, (third,)), (count_between, ()), (counts_between, ()), (all_between, ()),
                               (count_through, (third,))]:
            function(8, one, other, *more)
            self.assertEqual((one, other, third, fourth), kept)


if __name__ == "__main__":
    unittest.main()
