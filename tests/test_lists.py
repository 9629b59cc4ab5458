"""Points [9], [10] and [19]."""

import functools
import math
import random
import unittest

from crosshitch.errors import InvalidMoves, InvalidNumber
from crosshitch.lists import count_shortest, count_through, good_moves, nth_shortest, shortest_index
from crosshitch.moves import moved
from crosshitch.overlay import fewest_moves, is_shortest, shortest
from tests.graph import graph_of
from tests.helpers import ErrorChecks, lists_in, moves_by_forms, snapshot, values_of_any_kind
from tests.laying import BACK, BENT, LINE, LONG_RING, LOOPS, PAIR, RING, laid, some_kinds, some_pairs


def alone(cost):
    return (cost + 1) ** (cost - 1) if cost else 1


def shuffled(*moves):
    """How many ways there are to shuffle lists of so many moves."""
    ways = math.factorial(sum(moves))
    for many in moves:
        ways //= math.factorial(many)
    return ways


@functools.lru_cache(maxsize=None)
def both(k, l):
    """X(k, l), the sum of point [10] as it stands there."""
    total = sum((k - s) * both(k - s, l) * alone(s - 1) * shuffled(k - s + l, s - 1) for s in range(1, k))
    total += sum((l - s + 1) * both(k, l - s) * alone(s - 1) * shuffled(k + l - s, s - 1) for s in range(1, l))
    total += alone(l - 1) * alone(k) * shuffled(l - 1, k)
    for i in range(1, k + 1):
        total += alone(i - 1) * alone(k - i) * alone(l) * shuffled(i - 1, k - i, l)
        for j in range(l + 1):
            a, b = i - 1 + j, k - i + l - j
            total += 2 * alone(a) * alone(b) * shuffled(a, b)
    return total


def met(k, l):
    return both(k, l) - alone(k) * alone(l) * shuffled(k, l)


def count_by_pairs(kinds):
    """The number of shortest lists, each way of `one` in turn with each way of `other` or with none."""
    ones = [cost for word, cost in kinds if word == "one"]
    rest = [cost for word, cost in kinds if word in ("ring", "odd")]

    def products(at, others):
        """All lists of (moves, lists) of the groups in which the ways from a number on lie."""
        if at == len(ones):
            yield [(cost, alone(cost)) for cost in others]
            return
        for more in products(at + 1, others):
            yield [(ones[at], alone(ones[at]))] + more
        for place, other in enumerate(others):
            for more in products(at + 1, others[:place] + others[place + 1:]):
                yield [(ones[at] + other, met(ones[at], other))] + more

    total = 0
    for groups in products(0, [cost for word, cost in kinds if word == "other"]):
        groups = groups + [(cost, alone(cost)) for cost in rest]
        product = shuffled(*[moves for moves, _ in groups])
        for _, lists in groups:
            product *= lists
        total += product
    return total


class GoodMoves(unittest.TestCase):
    def test_all_layouts_of_few_pieces(self):
        for pieces in range(1, 4):
            graph = graph_of(pieces)
            for one, layout in enumerate(graph.layouts):
                for other, goal in enumerate(graph.layouts):
                    expected = [move for move, _ in graph.good(one, other)]
                    self.assertEqual(good_moves(pieces, layout, goal), expected, (layout, goal))

    def test_some_layouts_of_more_pieces(self):
        for pieces in (4, 5, 7):
            for one, other in some_pairs(pieces, 12, pieces, most=4):
                fewest = fewest_moves(pieces, one, other)
                expected = [move for move in moves_by_forms(pieces, one)
                            if fewest_moves(pieces, moved(pieces, one, move), other) < fewest]
                self.assertEqual(good_moves(pieces, one, other), expected)

    def test_sixteen_pieces(self):
        for kinds, number in [([("ring", 15)], 120), ([("one", 16)], 136), ([("other", 16)], 136),
                              ([("odd", 15), ("odd", 0)], 120), ([("one", 1)] * 8 + [("other", 1)] * 8, 8 + 8 + 8 * 8 * 4),
                              ([("ring", 0)] * 16, 0), ([("odd", 0)] * 32, 0)]:
            one, other = laid(16, kinds)
            moves = good_moves(16, one, other)
            self.assertEqual(len(moves), number, kinds)
            self.assertEqual(moves, sorted(moves))
            for move in moves[::7]:
                self.assertEqual(fewest_moves(16, moved(16, one, move), other), fewest_moves(16, one, other) - 1)

    def test_two_equal_layouts(self):
        for layout in [[], PAIR, RING]:
            self.assertEqual(good_moves(3, layout, list(layout)), [])

    def test_new_lists(self):
        for one, other in [(PAIR, BACK), (RING, [(-3, 1), (-2, 3), (-1, 2)]), (LINE, []), ([], RING)]:
            kept = snapshot((one, other))
            first = good_moves(3, one, other)
            kept_moves = snapshot(first)
            lists = lists_in(first)
            self.assertEqual(len({id(found) for found in lists}), len(lists))
            for found in lists:
                found.append((8, 9))
            self.assertEqual(good_moves(3, one, other), kept_moves)
            self.assertEqual((one, other), kept)
            for move in kept_moves:
                self.assertEqual([type(move), *map(type, move)], [tuple, list, list])


class CountShortest(unittest.TestCase):
    def test_all_layouts_of_few_pieces(self):
        for pieces in range(1, 4):
            graph = graph_of(pieces)
            for one, layout in enumerate(graph.layouts):
                for other, goal in enumerate(graph.layouts):
                    self.assertEqual(count_shortest(pieces, layout, goal), graph.counts[one][other], (layout, goal))

    def test_numbers_of_the_document(self):
        self.assertEqual([both(1, 1), both(1, 2), both(2, 1)], [6, 33, 33])
        self.assertEqual(count_shortest(2, *laid(2, [("one", 1), ("other", 1)])), 6)
        self.assertEqual(count_shortest(3, *laid(3, [("one", 1), ("other", 2)])), 33)
        self.assertEqual(count_shortest(3, *laid(3, [("one", 2), ("other", 1)])), 33)

    def test_every_two_ways_of_sixty_pieces(self):
        for k in range(1, 60):
            for l in range(1, 61 - k):
                one, other = laid(60, [("one", k), ("other", l)])
                self.assertEqual(count_shortest(60, one, other), both(k, l), (k, l))

    def test_one_component(self):
        for cost in range(1, 60):
            for kinds in [[("ring", cost)], [("odd", cost)], [("one", cost)], [("other", cost)]]:
                self.assertEqual(count_shortest(60, *laid(60, kinds)), alone(cost))
        self.assertEqual(count_shortest(60, LONG_RING, LOOPS), 60 ** 58)
        self.assertEqual(count_shortest(60, *laid(60, [("one", 60)])), 61 ** 59)
        self.assertEqual(count_shortest(60, LOOPS, []), math.factorial(60))

    def test_several_components(self):
        rnd = random.Random(4)
        for _ in range(60):
            kinds = some_kinds(rnd.choice([12, 30, 120]), rnd, most=rnd.choice([3, 9, 25]))
            ways = [kind for kind in kinds if kind[0] in ("one", "other")][:9]
            kinds = ways + [kind for kind in kinds if kind[0] in ("ring", "odd")]
            self.assertEqual(count_shortest(60, *laid(60, kinds)), count_by_pairs(kinds), kinds)

    def test_many_ways(self):
        expected = math.factorial(60) * sum(math.comb(30, pairs) ** 2 * math.factorial(pairs) * 2 ** pairs
                                            for pairs in range(31))
        self.assertEqual(count_shortest(60, *laid(60, [("one", 1)] * 30 + [("other", 1)] * 30)), expected)
        few = [("one", 1), ("one", 2), ("one", 3), ("one", 3)]
        many = [("other", 1)] * 3 + [("other", 2), ("other", 4), ("other", 5)]
        self.assertEqual(count_shortest(60, *laid(60, few + many)), count_by_pairs(few + many))
        turned = [("one" if word == "other" else "other", cost) for word, cost in few + many]
        self.assertEqual(count_shortest(60, *laid(60, turned)), count_by_pairs(few + many))

    def test_by_the_first_move(self):
        for pieces in (5, 8, 16):
            for one, other in some_pairs(pieces, 6, pieces):
                expected = sum(count_shortest(pieces, moved(pieces, one, move), other)
                               for move in good_moves(pieces, one, other))
                self.assertEqual(count_shortest(pieces, one, other), expected if one != other else 1)

    def test_two_equal_layouts(self):
        for layout in [[], PAIR, RING, LOOPS]:
            self.assertEqual(count_shortest(60, layout, list(layout)), 1)


class CountThrough(unittest.TestCase):
    def test_all_layouts_of_few_pieces(self):
        for pieces in range(1, 3):
            graph = graph_of(pieces)
            numbers = range(len(graph.layouts))
            for one, other, third in [(one, other, third) for one in numbers for other in numbers for third in numbers]:
                self.check_through(pieces, graph, one, other, third)

    def test_three_pieces(self):
        graph = graph_of(3)
        for one in range(len(graph.layouts)):
            for other in range(len(graph.layouts)):
                between = graph.between(one, other)
                for third in [one, other, *between[::5], (7 * one + 5 * other) % len(graph.layouts)]:
                    self.check_through(3, graph, one, other, third)

    def check_through(self, pieces, graph, one, other, third):
        expected = 0
        if graph.is_between(one, other, third):
            expected = graph.counts[one][third] * graph.counts[third][other]
        layouts = [graph.layouts[number] for number in (one, other, third)]
        self.assertEqual(count_through(pieces, *layouts), expected, layouts)

    def test_sixty_pieces(self):
        for one, other in some_pairs(5, 20, 60):
            whole = count_shortest(60, one, other)
            self.assertEqual(count_through(60, one, other, one), whole)
            self.assertEqual(count_through(60, one, other, other), whole)
            now = one
            for at, move in enumerate(shortest(60, one, other)):
                now = moved(60, now, move)
                if at % 9 == 0:
                    expected = count_shortest(60, one, now) * count_shortest(60, now, other)
                    self.assertEqual(count_through(60, one, other, now), expected)
        self.assertEqual(count_through(60, LONG_RING, LOOPS, []), 0)
        self.assertEqual(count_through(60, LOOPS, LOOPS, LOOPS), 1)
        self.assertEqual(count_through(60, LOOPS, LOOPS, LONG_RING), 0)
        self.assertEqual(count_through(60, LOOPS, [], LOOPS[::2]), math.factorial(30) ** 2)

    def test_all_layouts_at_a_distance(self):
        graph = graph_of(3)
        for one, other in [(0, 75), (75, 0), (20, 50), (33, 61), (74, 75)]:
            layouts = [graph.layouts[number] for number in (one, other)]
            fewest = graph.distances[one][other]
            for moves in range(fewest + 1):
                through = sum(count_through(3, *layouts, graph.layouts[third]) for third in graph.between(one, other)
                              if graph.distances[one][third] == moves)
                self.assertEqual(through, graph.counts[one][other])


class Numbers(ErrorChecks, unittest.TestCase):
    def check_numbers(self, pieces, one, other, lists, numbers):
        for index in numbers:
            self.assertEqual(nth_shortest(pieces, one, other, index), lists[index])
            self.assertEqual(shortest_index(pieces, one, other, lists[index]), index)
        for index in [len(lists), len(lists) + 1, 10 ** 199]:
            self.raised_string(InvalidNumber, nth_shortest, pieces, one, other, index)

    def test_all_layouts_of_few_pieces(self):
        for pieces in range(1, 4):
            graph = graph_of(pieces)
            for one, layout in enumerate(graph.layouts):
                for other, goal in enumerate(graph.layouts):
                    lists = graph.shortest_lists(one, other)
                    numbers = range(len(lists)) if pieces < 3 else {0, len(lists) // 2, len(lists) - 1}
                    self.check_numbers(pieces, layout, goal, lists, numbers)

    def test_every_list_of_some_layouts_of_three_pieces(self):
        graph = graph_of(3)
        for one, other in [(0, 75), (75, 0), (20, 50), (33, 61), (74, 75), (40, 41)]:
            lists = graph.shortest_lists(one, other)
            self.assertEqual(lists, sorted(lists))
            self.check_numbers(3, graph.layouts[one], graph.layouts[other], lists, range(len(lists)))

    def test_two_equal_layouts(self):
        for layout in [[], PAIR, [(-16, 16)]]:
            self.assertEqual(nth_shortest(16, layout, list(layout), 0), [])
            self.assertEqual(shortest_index(16, layout, list(layout), []), 0)
            self.raised_string(InvalidNumber, nth_shortest, 16, layout, list(layout), 1)
            self.raised_string(InvalidMoves, shortest_index, 16, layout, list(layout), [([], [(-2, 2)])])

    def test_sixteen_pieces(self):
        rnd = random.Random(6)
        pairs = some_pairs(7, 12, 16) + [laid(16, kinds) for kinds in [
            [("ring", 15)], [("one", 16)], [("other", 16)], [("odd", 15)], [("one", 8), ("other", 8)],
            [("one", 1)] * 8 + [("other", 1)] * 8, [("one", 2)] * 4 + [("other", 2)] * 4,
        ]]
        for one, other in pairs:
            count = count_shortest(16, one, other)
            numbers = sorted({0, count - 1, rnd.randrange(count), count // 2, max(count // 2 - 1, 0)})
            lists = [nth_shortest(16, one, other, index) for index in numbers]
            self.assertEqual(lists, sorted(lists))
            for index, moves in zip(numbers, lists):
                self.assertIs(is_shortest(16, one, other, moves), True)
                self.assertEqual(shortest_index(16, one, other, moves), index)
            for index in [count, count + 1, 10 ** 199]:
                self.raised_string(InvalidNumber, nth_shortest, 16, one, other, index)
            index = shortest_index(16, one, other, shortest(16, one, other))
            self.assertEqual(nth_shortest(16, one, other, index), shortest(16, one, other))

    def test_invalid_moves(self):
        there, back = ([], [(-1, 2)]), ([(-2, 1)], [])
        for value in [*values_of_any_kind(), [], [there], [back], [there, there], (there, back), [there, back, there],
                      [list(there), back], [there, ([(-2, 1)], ())], [([], [(-1, True)]), back], [there, ([], [])],
                      [back, ([], [(-1, 1)]), ([(-1, 1)], [(-1, 2)])], [back, ([], [(-1, 1)])], [there, back, ([], [])],
                      [([], [(2, -1)]), back], [([], [[-1, 2]]), back], [([(-2, 1)], [(-1, 1)]), ([(-1, 1)], [(-1, 2)])]]:
            if value == [([(-2, 1)], [(-1, 1)]), ([(-1, 1)], [(-1, 2)])]:
                self.assertEqual(nth_shortest(2, PAIR, BACK, shortest_index(2, PAIR, BACK, value)), value)
            else:
                self.raised_string(InvalidMoves, shortest_index, 2, PAIR, BACK, value)
            if value != []:
                self.raised_string(InvalidMoves, shortest_index, 2, PAIR, PAIR, value)
        for value in values_of_any_kind():
            self.raised_string(InvalidMoves, shortest_index, 2, PAIR, BACK, [there, value])
            self.raised_string(InvalidMoves, shortest_index, 2, PAIR, BACK, [value, back])
            self.raised_string(InvalidMoves, shortest_index, 2, PAIR, BACK, [([], [(-1, value)]), back])

    def test_new_lists_and_arguments(self):
        one, other = laid(8, [("one", 3), ("other", 2), ("ring", 2)])
        kept = snapshot((one, other))
        moves = nth_shortest(8, one, other, 1000)
        kept_moves = snapshot(moves)
        self.assertEqual(shortest_index(8, one, other, moves), 1000)
        self.assertEqual((one, other, moves), (*kept, kept_moves))
        lists = lists_in(moves)
        self.assertEqual(len({id(found) for found in lists}), len(lists))
        for found in lists:
            found.append((7, 8))
        self.assertEqual(nth_shortest(8, one, other, 1000), kept_moves)
        for function, more in [(good_moves, ()), (count_shortest, ()), (count_through, ([],)), (nth_shortest, (0,))]:
            function(8, one, other, *more)
            self.assertEqual((one, other), kept)


if __name__ == "__main__":
    unittest.main()
