"""Points [8], [9] and [18]."""

import random
import unittest

from crosshitch.moves import is_move, moved
from crosshitch.overlay import components_of, fewest_moves, is_shortest, leads, shortest
from tests.graph import graph_of
from tests.helpers import all_ends, coupled_ends, lists_in, snapshot, values_of_any_kind
from tests.laying import BACK, BENT, LINE, LONG_RING, LONG_ROW, LOOPS, PAIR, RING, laid, some_kinds, some_pairs


def ends_together(pieces, one, other):
    """The sets of the ends of the components, by the couplings of both layouts."""
    together = {end: {end} for end in all_ends(pieces)}
    for low, high in one + other:
        both = together[low] | together[high]
        for end in both:
            together[end] = both
    return {frozenset(ends) for ends in together.values()}


def word_of(ends, one, other):
    opened = {end for end in ends if end not in coupled_ends(one) or end not in coupled_ends(other)}
    if not opened:
        return "ring"
    if len(ends) % 2 == 1:
        return "odd"
    return "one" if not opened & coupled_ends(other) else "other"


def pairs_between(ends):
    return [tuple(sorted(pair)) for pair in zip(ends, ends[1:])]


class Components(unittest.TestCase):
    def check_sequence(self, word, ends, one, other):
        """The sequence of the ends, and where it begins."""
        if word == "ring":
            self.assertEqual(ends[0], min(ends))
            pairs, first = pairs_between(ends + ends[:1]), one
        elif word == "odd":
            self.assertNotIn(ends[0], coupled_ends(one))
            pairs, first = pairs_between(ends), other
        else:
            self.assertLess(ends[0], ends[-1])
            pairs, first = pairs_between(ends), one if word == "one" else other
        second = other if first == one else one
        for at, pair in enumerate(pairs):
            self.assertIn(pair, second if at % 2 else first)

    def check_components(self, pieces, one, other):
        found = components_of(pieces, one, other)
        self.assertEqual({frozenset(ends) for _, ends in found}, ends_together(pieces, one, other))
        self.assertEqual(sum(len(ends) for _, ends in found), 2 * pieces)
        self.assertEqual(found, sorted(found))
        for word, ends in found:
            self.assertEqual(word, word_of(set(ends), one, other))
            self.check_sequence(word, ends, one, other)
        rings = [ends for word, ends in found if word == "ring"]
        odd = [ends for word, ends in found if word == "odd"]
        self.assertEqual(len(odd) % 2, 0)
        self.assertEqual(fewest_moves(pieces, one, other), pieces - len(rings) - len(odd) // 2)
        costs = [len(ends) // 2 - (word == "ring") for word, ends in found]
        self.assertEqual(fewest_moves(pieces, one, other), sum(costs))

    def test_all_layouts_of_few_pieces(self):
        for pieces in range(1, 4):
            layouts = graph_of(pieces).layouts
            for one in layouts:
                for other in layouts:
                    self.check_components(pieces, one, other)

    def test_many_pieces(self):
        for pieces in (4, 9, 60):
            for one, other in some_pairs(pieces, 30, pieces, most=20):
                self.check_components(pieces, one, other)

    def test_sixty_pieces(self):
        layouts = [[], LOOPS, LONG_ROW, LONG_RING, [(-60, 60)], LONG_ROW[:30]]
        for one in layouts:
            for other in layouts:
                self.check_components(60, one, other)
        for kinds in [[("ring", 59)], [("odd", 59), ("odd", 0)], [("one", 60)], [("other", 60)],
                      [("one", 30), ("other", 30)], [("ring", 0)] * 60, [("odd", 0)] * 120, [("odd", 1)] * 40]:
            one, other = laid(60, kinds)
            found = components_of(60, one, other)
            self.check_components(60, one, other)
            self.assertEqual(sorted((word, len(ends) // 2 - (word == "ring")) for word, ends in found), sorted(kinds))

    def test_one_piece(self):
        self.assertEqual(components_of(1, [], []), [("odd", [-1]), ("odd", [1])])
        self.assertEqual(components_of(1, [(-1, 1)], [(-1, 1)]), [("ring", [-1, 1])])
        self.assertEqual(components_of(1, [(-1, 1)], []), [("one", [-1, 1])])
        self.assertEqual(components_of(1, [], [(-1, 1)]), [("other", [-1, 1])])

    def test_where_they_begin(self):
        self.assertEqual(components_of(2, [(-2, 1)], [(-1, 1)]), [("odd", [-1, 1, -2]), ("odd", [2])])
        self.assertEqual(components_of(2, [(-1, 1)], [(-2, 1)]), [("odd", [-2, 1, -1]), ("odd", [2])])
        self.assertEqual(components_of(2, [(-2, 2), (-1, 1)], [(-1, 2)]), [("one", [-2, 2, -1, 1])])
        self.assertEqual(components_of(2, [(-1, 2)], [(-2, 2), (-1, 1)]), [("other", [-2, 2, -1, 1])])
        self.assertEqual(components_of(2, [(-2, 2), (-1, 1)], [(-2, 1), (-1, 2)]), [("ring", [-2, 2, -1, 1])])
        self.assertEqual(components_of(2, [(-2, 1), (-1, 2)], [(-2, 2), (-1, 1)]), [("ring", [-2, 1, -1, 2])])

    def test_two_equal_layouts(self):
        for layout in [[], PAIR, RING, LOOPS, LONG_ROW]:
            opened = set(all_ends(60)) - coupled_ends(layout)
            expected = [("odd", [end]) for end in sorted(opened)] + [("ring", [low, high]) for low, high in layout]
            self.assertEqual(components_of(60, layout, list(layout)), expected)
            self.assertEqual(fewest_moves(60, layout, list(layout)), 0)

    def test_new_lists(self):
        first = components_of(3, LINE, BENT)
        kept = snapshot(first)
        lists = lists_in(first)
        self.assertEqual(len({id(found) for found in lists}), len(lists))
        for found in lists:
            found.append(9)
        self.assertEqual(components_of(3, LINE, BENT), kept)
        self.assertEqual((LINE, BENT), ([(-3, 2), (-2, 1)], [(-3, -2), (1, 2)]))
        for word, ends in kept:
            self.assertEqual([type(word), type(ends)], [str, list])


class FewestMoves(unittest.TestCase):
    def test_all_layouts_of_few_pieces(self):
        for pieces in range(1, 4):
            graph = graph_of(pieces)
            for one, layout in enumerate(graph.layouts):
                for other, goal in enumerate(graph.layouts):
                    self.assertEqual(fewest_moves(pieces, layout, goal), graph.distances[one][other], (layout, goal))

    def test_the_other_way(self):
        for one, other in some_pairs(1, 30, 60):
            self.assertEqual(fewest_moves(60, one, other), fewest_moves(60, other, one))

    def test_sixty_pieces(self):
        self.assertEqual(fewest_moves(60, [], LOOPS), 60)
        self.assertEqual(fewest_moves(60, LOOPS, []), 60)
        self.assertEqual(fewest_moves(60, [], LONG_ROW), 59)
        self.assertEqual(fewest_moves(60, LONG_RING, LOOPS), 59)
        self.assertEqual(fewest_moves(60, LONG_RING, LONG_ROW), 1)
        for kinds in [[("ring", 59)], [("odd", 59)], [("one", 20), ("other", 40)], [("odd", 1)] * 40]:
            one, other = laid(60, kinds)
            self.assertEqual(fewest_moves(60, one, other), sum(cost for _, cost in kinds))


class Shortest(unittest.TestCase):
    def check_shortest(self, pieces, one, other):
        kept = snapshot((one, other))
        moves = shortest(pieces, one, other)
        self.assertEqual(len(moves), fewest_moves(pieces, one, other))
        now = one
        for move in moves:
            self.assertIs(is_move(pieces, now, move), True)
            now = moved(pieces, now, move)
        self.assertEqual(now, other)
        self.assertIs(leads(pieces, one, other, moves), True)
        self.assertIs(is_shortest(pieces, one, other, moves), True)
        self.assertEqual(shortest(pieces, one, other), moves)
        lists = lists_in(moves)
        self.assertEqual(len({id(found) for found in lists}), len(lists))
        for found in lists:
            found.clear()
        self.assertEqual((one, other), kept)

    def test_all_layouts_of_few_pieces(self):
        for pieces in range(1, 4):
            layouts = graph_of(pieces).layouts
            for one in layouts:
                for other in layouts:
                    self.check_shortest(pieces, one, other)

    def test_sixty_pieces(self):
        layouts = [[], LOOPS, LONG_ROW, LONG_RING, [(-60, 60)]]
        for one in layouts:
            for other in layouts:
                self.check_shortest(60, one, other)
        for one, other in some_pairs(2, 40, 60, most=20):
            self.check_shortest(60, one, other)

    def test_two_equal_layouts(self):
        for layout in [[], PAIR, RING]:
            self.assertEqual(shortest(3, layout, list(layout)), [])


class Leads(unittest.TestCase):
    def test_lists_of_moves_of_two_pieces(self):
        graph = graph_of(2)
        moves = {repr(move): move for steps in graph.steps for move, _ in steps}.values()
        for one, layout in enumerate(graph.layouts):
            after = {repr(move): number for move, number in graph.steps[one]}
            for move in moves:
                for other, goal in enumerate(graph.layouts):
                    expected = after.get(repr(move)) == other
                    self.assertIs(leads(2, layout, goal, [move]), expected)
                    self.assertIs(is_shortest(2, layout, goal, [move]), expected and one != other)

    def test_two_moves(self):
        graph = graph_of(2)
        for one, layout in enumerate(graph.layouts):
            for first, middle in graph.steps[one]:
                for second, last in graph.steps[middle]:
                    for other, goal in enumerate(graph.layouts):
                        self.assertIs(leads(2, layout, goal, [first, second]), last == other)
                        self.assertIs(is_shortest(2, layout, goal, [first, second]),
                                      last == other and graph.distances[one][other] == 2)

    def test_the_empty_list(self):
        for one in [[], PAIR, BACK]:
            for other in [[], PAIR, BACK]:
                self.assertIs(leads(2, one, other, []), one == other)
                self.assertIs(is_shortest(2, one, other, []), one == other)

    def test_through_the_other_layout(self):
        there, back = ([], [(-1, 1)]), ([(-1, 1)], [])
        self.assertIs(leads(1, [], [(-1, 1)], [there, back, there]), True)
        self.assertIs(leads(1, [], [], [there, back]), True)
        self.assertIs(leads(1, [], [(-1, 1)], [there, back]), False)
        self.assertIs(leads(1, [], [(-1, 1)], [there, there]), False)
        self.assertIs(is_shortest(1, [], [(-1, 1)], [there, back, there]), False)
        self.assertIs(is_shortest(1, [], [(-1, 1)], [there]), True)
        self.assertIs(leads(1, [], [], [there, back] * 200), True)
        self.assertIs(leads(1, [], [(-1, 1)], [there, back] * 199 + [there]), True)

    def test_near_a_list_that_leads(self):
        rnd = random.Random(3)
        for one, other in [laid(60, some_kinds(120, rnd)) for _ in range(8)]:
            moves = shortest(60, one, other)
            for at, (cut, joined) in enumerate(moves):
                for wrong in [(joined, cut), (cut, joined + [(1, 1)]), (cut,), [cut, joined], (tuple(cut), joined),
                              (cut, tuple(joined)), (cut, joined, []), None, (cut[1:] if cut else None, joined),
                              (cut, [[low, high] for low, high in joined] or [[]]),
                              (cut, [(high, low) for low, high in joined] or None)]:
                    value = moves[:at] + [wrong] + moves[at + 1:]
                    self.assertIs(leads(60, one, other, value), False, wrong)
                    self.assertIs(is_shortest(60, one, other, value), False, wrong)
                self.assertIs(leads(60, one, other, moves[:at] + moves[at + 1:]), False)
            self.assertIs(leads(60, one, other, tuple(moves)), False)
            self.assertIs(is_shortest(60, one, other, tuple(moves)), False)

    def test_values_of_any_kind(self):
        for value in values_of_any_kind():
            expected = type(value) == list and value == []
            for one, other in [(LINE, BENT), (PAIR, BACK), ([], LOOPS)]:
                for whole in [value, [value], [([], [(-1, 2)]), value], [(value, value)], [([value], [])],
                              [([], [(value, 2)])], {0: value}, (value,)]:
                    self.assertIs(leads(60, one, other, whole), False, whole)
                    self.assertIs(is_shortest(60, one, other, whole), False, whole)
            self.assertIs(leads(60, LOOPS, LOOPS, value), expected)
            self.assertIs(is_shortest(60, LOOPS, LOOPS, value), expected)

    def test_true_is_no_end(self):
        self.assertIs(leads(1, [], [(-1, 1)], [([], [(-1, True)])]), False)
        self.assertIs(is_shortest(1, [], [(-1, 1)], [([], [(-1, True)])]), False)
        self.assertIs(leads(1, [(-1, 1)], [], [([(-1, True)], [])]), False)

    def test_arguments_stay(self):
        moves = shortest(3, RING, BENT) + [([(-3, -2)], [(-3, -1)])]
        kept = snapshot(moves)
        leads(3, RING, BENT, moves)
        is_shortest(3, RING, BENT, moves[:-1])
        self.assertEqual((moves, RING, BENT), (kept, [(-3, 2), (-2, 1), (-1, 3)], [(-3, -2), (1, 2)]))


if __name__ == "__main__":
    unittest.main()
