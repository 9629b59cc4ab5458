"""Points [14] and [22], but for wrong parameters."""

import itertools
import random
import unittest

from crosshitch.errors import Clash, InvalidNumber, InvalidSight, NotFitting
from crosshitch.few import NUMBERS, number_of_few
from crosshitch.layouts import is_layout, open_ends, partners_of
from crosshitch.overlay import fewest_moves
from crosshitch.shells import counts_by_moves, index_at, nth_at
from crosshitch.sights import Sight
from tests.graph import graph_of
from tests.helpers import ErrorChecks, Thing, all_ends, all_layouts, coupled_ends, lists_in, snapshot
from tests.helpers import values_of_any_kind
from tests.laying import BACK, BENT, LINE, LONG_RING, LONG_ROW, LOOPS, PAIR, RING, some_layout
from tests.sighting import counts_by_formula, fits, numbers_by_formula, some_sight, strands_of


def all_sights(pieces):
    """The couplings and the open ends of all sights."""
    for known in all_layouts(pieces):
        left = [end for end in all_ends(pieces) if end not in coupled_ends(known)]
        for size in range(len(left) + 1):
            for opens in itertools.combinations(left, size):
                yield known, list(opens)


def in_common(pieces, layouts):
    """The couplings and the open ends that are in all of some layouts."""
    couplings = set(layouts[0]).intersection(*layouts)
    opens = set(open_ends(pieces, layouts[0])).intersection(*[open_ends(pieces, layout) for layout in layouts])
    return sorted(couplings), sorted(opens)


class Formula(unittest.TestCase):
    """The numbers that stand in the package, and the formulas that the tests use, against one another."""

    def test_numbers_of_few(self):
        keys = set()
        for x, y, z in itertools.product(range(5), range(9), range(9)):
            if 2 * x + y + z <= 8:
                for score, number in numbers_by_formula(x, y, z).items():
                    if number:
                        keys.add(1000 * x + 100 * y + 10 * z + score)
                        self.assertEqual(number_of_few(x, y, z, score), number)
                for score in [-10, -2, -1, 9, 10, 11, 100, 10 ** 30, -10 ** 30]:
                    self.assertEqual(number_of_few(x, y, z, score), 0)
        self.assertEqual(sorted(NUMBERS), sorted(keys))

    def test_by_going_through_all_layouts(self):
        graph = graph_of(2)
        for known, opens in all_sights(2):
            for one, layout in enumerate(graph.layouts):
                distances = [graph.distances[one][other] for other, fitting in enumerate(graph.layouts)
                             if fits(fitting, known, opens)]
                expected = [distances.count(moves) for moves in range(max(distances) + 1)]
                self.assertEqual(counts_by_formula(2, layout, known, opens), expected)


class FewPieces(ErrorChecks, unittest.TestCase):
    """All sights of one and of two pieces and those of three, with what is found by going through all layouts."""

    def check_sight(self, pieces, known, opens, numbers):
        graph = graph_of(pieces)
        sight = Sight(pieces, known, opens)
        fitting = [number for number, layout in enumerate(graph.layouts) if fits(layout, known, opens)]
        for number, layout in enumerate(graph.layouts):
            self.assertIs(layout in sight, number in fitting)
        for one in numbers:
            distances = graph.distances[one]
            here = [distances[number] for number in fitting]
            layout = graph.layouts[one]
            self.assertEqual(sight.counts(layout), [here.count(moves) for moves in range(max(here) + 1)])
            for (moves, found), expected in [(sight.fewest(layout), min(here)), (sight.most(layout), max(here))]:
                self.assertEqual(moves, expected)
                self.assertTrue(fits(found, known, opens))
                self.assertEqual(distances[graph.numbers[tuple(found)]], moves)
            for moves in range(max(here) + 2):
                layouts = [graph.layouts[number] for number in fitting if distances[number] == moves]
                self.check_distance(pieces, sight, layout, moves, layouts)

    def check_distance(self, pieces, sight, layout, moves, layouts):
        layouts = sorted(layouts, key=lambda other: partners_of(pieces, other))
        self.assertEqual([sight.nth(layout, moves, index) for index in range(len(layouts))], layouts)
        self.raised_string(InvalidNumber, sight.nth, layout, moves, len(layouts))
        if layouts:
            self.assertEqual(sight.sure(layout, moves), in_common(pieces, layouts))
        else:
            self.raised_string(NotFitting, sight.sure, layout, moves)

    def test_one_and_two_pieces(self):
        for pieces in (1, 2):
            for known, opens in all_sights(pieces):
                self.check_sight(pieces, known, opens, range(len(all_layouts(pieces))))

    def test_three_pieces(self):
        for known, opens in all_sights(3):
            self.check_sight(3, known, opens, range(76))

    def test_four_pieces(self):
        rnd = random.Random(31)
        layouts = all_layouts(4)
        for layout in rnd.sample(layouts, 12):
            known, opens = some_sight(4, rnd, layout)
            sight = Sight(4, known, opens)
            by_moves = {}
            for other in layouts:
                self.assertIs(other in sight, fits(other, known, opens))
                if other in sight:
                    by_moves.setdefault(fewest_moves(4, layout, other), []).append(other)
            self.assertEqual(sight.counts(layout), [len(by_moves.get(moves, [])) for moves in range(max(by_moves) + 1)])
            for moves in range(max(by_moves) + 2):
                self.check_distance(4, sight, layout, moves, by_moves.get(moves, []))


class ManyPieces(ErrorChecks, unittest.TestCase):
    def pairs(self, seed, many, sizes):
        """A number of pieces, a layout, and what is known in a sight."""
        rnd = random.Random(seed)
        for number in range(many):
            pieces = sizes[number % len(sizes)]
            couplings = rnd.choice([0, 1, pieces // 2, pieces - 1, pieces, rnd.randint(0, pieces)])
            layout = some_layout(pieces, couplings, rnd)
            yield pieces, layout, *some_sight(pieces, rnd, rnd.choice([None, layout]))

    def test_counts(self):
        for pieces, layout, known, opens in self.pairs(32, 60, [5, 7, 12, 16, 24, 60]):
            expected = counts_by_formula(pieces, layout, known, opens)
            self.assertEqual(Sight(pieces, known, opens).counts(layout), expected)

    def test_counts_with_strands_of_all_sorts(self):
        rnd = random.Random(33)
        for pieces, couplings, many in [(6, 4, 2), (10, 7, 4), (30, 20, 12), (60, 40, 20), (60, 30, 30), (60, 60, 30)]:
            layout = some_layout(pieces, couplings, rnd)
            opens = sorted(rnd.sample([rnd.choice(coupling) for coupling in layout], many))
            sight = Sight(pieces, [], opens)
            self.assertEqual(strands_of(pieces, layout, [], opens),
                             (couplings - many, 2 * (pieces - couplings), many, 0))
            self.assertEqual(sight.counts(layout), counts_by_formula(pieces, layout, [], opens))

    def test_fewest_and_most(self):
        for pieces, layout, known, opens in self.pairs(34, 120, [5, 8, 16, 33, 60]):
            sight = Sight(pieces, known, opens)
            counts = sight.counts(layout)
            least = [moves for moves, number in enumerate(counts) if number][0]
            for (moves, found), expected in [(sight.fewest(layout), least), (sight.most(layout), len(counts) - 1)]:
                self.assertEqual(moves, expected)
                self.assertTrue(is_layout(pieces, found))
                self.assertIs(found in sight, True)
                self.assertEqual(fewest_moves(pieces, layout, found), moves)

    def test_nth(self):
        rnd = random.Random(35)
        for pieces, layout, known, opens in self.pairs(36, 40, [5, 6, 9, 12, 16]):
            sight = Sight(pieces, known, opens)
            counts = sight.counts(layout)
            for moves in rnd.sample(range(len(counts)), min(3, len(counts))):
                many = counts[moves]
                for index in [many, many + 1, 10 ** 199]:
                    self.raised_string(InvalidNumber, sight.nth, layout, moves, index)
                if many:
                    numbers = sorted({0, many - 1, many // 2, max(0, many // 2 - 1), rnd.randrange(many)})
                    layouts = [sight.nth(layout, moves, index) for index in numbers]
                    partners = [partners_of(pieces, other) for other in layouts]
                    self.assertEqual(partners, sorted(partners))
                    self.assertEqual(len({tuple(other) for other in layouts}), len(numbers))
                    for other in layouts:
                        self.assertIs(other in sight, True)
                        self.assertEqual(fewest_moves(pieces, layout, other), moves)
            for moves in [len(counts), pieces + 1, pieces + 5, 10 ** 199]:
                self.raised_string(InvalidNumber, sight.nth, layout, moves, 0)

    def test_nth_goes_through_all(self):
        for pieces, layout, known, opens in self.pairs(37, 30, [5, 6, 7]):
            sight = Sight(pieces, known, opens)
            for moves, many in enumerate(sight.counts(layout)):
                if many <= 60:
                    layouts = [sight.nth(layout, moves, index) for index in range(many)]
                    partners = [partners_of(pieces, other) for other in layouts]
                    self.assertEqual(partners, sorted(partners))
                    self.assertEqual(len({tuple(other) for other in layouts}), many)
                    if many:
                        self.assertEqual(sight.sure(layout, moves), in_common(pieces, layouts))

    def test_sure(self):
        """What is sure is what, known besides, leaves as many layouts."""
        rnd = random.Random(38)
        for pieces, layout, known, opens in self.pairs(39, 20, [5, 9, 16]):
            sight = Sight(pieces, known, opens)
            counts = sight.counts(layout)
            for moves in {sight.fewest(layout)[0], rnd.randrange(len(counts)), len(counts) - 1}:
                if not counts[moves]:
                    self.raised_string(NotFitting, sight.sure, layout, moves)
                    continue
                couplings, ends = sight.sure(layout, moves)
                found = sight.nth(layout, moves, 0)
                for coupling in found:
                    here = (sight + Sight(pieces, [coupling], [])).counts(layout)
                    self.assertIs(coupling in couplings, here[moves:moves + 1] == counts[moves:moves + 1])
                for end in open_ends(pieces, found):
                    here = (sight + Sight(pieces, [], [end])).counts(layout)
                    self.assertIs(end in ends, here[moves:moves + 1] == counts[moves:moves + 1])
                self.assertLessEqual(set(couplings), set(found))
                self.assertLessEqual(set(ends), set(open_ends(pieces, found)))

    def test_no_layout_fits_at_a_distance(self):
        sight = Sight(16, [(-16, 16)], [])
        self.assertEqual(sight.counts([])[:2], [0, 1])
        for moves in [0, 17, 18, 33, 10 ** 30, 10 ** 199]:
            self.raised_string(NotFitting, sight.sure, [], moves)
            self.raised_string(InvalidNumber, sight.nth, [], moves, 0)


class Edges(ErrorChecks, unittest.TestCase):
    def test_sights_of_nothing(self):
        """They are the shells."""
        rnd = random.Random(40)
        for pieces in (1, 2, 3, 4, 5, 16, 60):
            sight = Sight(pieces, [], [])
            self.assertEqual(len(sight), 2 * pieces)
            for couplings in {0, 1, pieces // 2, pieces}:
                layout = some_layout(pieces, couplings, rnd)
                counts = counts_by_moves(pieces, layout)
                self.assertEqual(sight.counts(layout), counts)
                self.assertEqual(sight.fewest(layout), (0, layout))
                self.assertEqual(sight.most(layout)[0], len(counts) - 1)
                self.assertIs(layout in sight, True)
                if pieces <= 16:
                    self.assertEqual(sight.sure(layout, 0), (layout, open_ends(pieces, layout)))
                    for moves, many in enumerate(counts):
                        index = rnd.randrange(many)
                        self.assertEqual(sight.nth(layout, moves, index), nth_at(pieces, layout, moves, index))
                        self.assertEqual(index_at(pieces, layout, sight.nth(layout, moves, index)), index)

    def test_sights_of_all(self):
        rnd = random.Random(41)
        for pieces in (1, 2, 3, 8, 16, 60):
            for couplings in {0, 1, pieces // 2, pieces}:
                known, layout = some_layout(pieces, couplings, rnd), some_layout(pieces, rnd.randint(0, pieces), rnd)
                sight = Sight(pieces, known, open_ends(pieces, known))
                moves = fewest_moves(pieces, layout, known)
                self.assertEqual([len(sight), sight.counts(layout)], [0, [0] * moves + [1]])
                self.assertEqual([sight.fewest(layout), sight.most(layout)], [(moves, known)] * 2)
                self.assertEqual(sight.nth(layout, moves, 0), known)
                self.assertEqual(sight.sure(layout, moves), (known, open_ends(pieces, known)))
                self.assertIs(known in sight, True)
                self.assertIs(layout in sight, layout == known)
                self.raised_string(InvalidNumber, sight.nth, layout, moves, 1)
                self.raised_string(InvalidNumber, sight.nth, layout, moves + 1, 0)
                self.raised_string(NotFitting, sight.sure, layout, moves + 1)

    def test_one_piece(self):
        counts = {((), ()): [1, 1], ((), (-1,)): [1], ((), (1,)): [1], ((), (-1, 1)): [1], (((-1, 1),), ()): [0, 1]}
        for (known, opens), expected in counts.items():
            sight = Sight(1, list(known), list(opens))
            self.assertEqual(sight.counts([]), expected)
            self.assertEqual(len(sight), 2 - 2 * len(known) - len(opens))
            self.assertIs([] in sight, not known)
            self.assertIs([(-1, 1)] in sight, not opens)

    def test_sixty_pieces(self):
        sight = Sight(60, LOOPS[:30], [1, 2, 3])
        self.assertEqual(len(sight), 57)
        for layout in [[], LOOPS, LONG_RING, LONG_ROW, LOOPS[20:50]]:
            self.assertEqual(sight.counts(layout), counts_by_formula(60, layout, LOOPS[:30], [1, 2, 3]))
            self.assertIs(layout in sight, fits(layout, LOOPS[:30], [1, 2, 3]))
        self.assertEqual(sight.fewest(LOOPS)[0], 3)
        self.assertEqual(sight.fewest([])[0], 30)

    def test_all_ends_coupled_and_none(self):
        self.assertEqual(Sight(2, [(-2, 1), (-1, 2)], []).counts([(-2, 1), (-1, 2)]), [1])
        self.assertEqual(Sight(2, [], [-2, -1, 1, 2]).counts([(-2, 1), (-1, 2)]), [0, 0, 1])
        self.assertEqual(Sight(2, [], [-2, -1, 1, 2]).most(PAIR), (1, []))


class Properties(unittest.TestCase):
    def test_properties(self):
        sight = Sight(3, LINE, [-1, 3])
        self.assertEqual([sight.pieces, sight.known, sight.opens, len(sight)], [3, LINE, [-1, 3], 0])
        sight = Sight(3, [], [])
        self.assertEqual([sight.pieces, sight.known, sight.opens, len(sight)], [3, [], [], 6])
        self.assertEqual(len(Sight(60, LONG_RING[:10], [-1])), 99)

    def test_copies(self):
        known, opens = [(-3, 2)], [-1, 3]
        sight = Sight(3, known, opens)
        known.append((-2, 1))
        opens.clear()
        self.assertEqual([sight.known, sight.opens], [[(-3, 2)], [-1, 3]])
        sight.known.append((-2, 1))
        sight.opens.pop()
        self.assertEqual([sight.known, sight.opens, len(sight)], [[(-3, 2)], [-1, 3], 2])
        self.assertEqual(sight, Sight(3, [(-3, 2)], [-1, 3]))

    def test_new_lists_and_arguments(self):
        sight = Sight(3, [(-3, 2)], [3])
        layout = snapshot(LINE)
        calls = [lambda: sight.counts(layout), lambda: sight.fewest(layout), lambda: sight.most(layout),
                 lambda: sight.nth(layout, 1, 0), lambda: sight.sure(layout, 0), lambda: sight.sure(layout, 1)]
        for call in calls:
            first = call()
            kept = snapshot(first)
            lists = lists_in(first)
            self.assertEqual(len({id(found) for found in lists}), len(lists))
            for found in lists:
                found.append("more")
            self.assertEqual(call(), kept)
            self.assertEqual([layout, sight.known, sight.opens], [LINE, [(-3, 2)], [3]])

    def test_kinds_of_results(self):
        sight = Sight(3, [(-3, 2)], [3])
        self.assertEqual([type(sight.fewest(LINE)), type(sight.most(LINE)), type(sight.sure(LINE, 0))], [tuple] * 3)
        self.assertEqual({type(coupling) for coupling in sight.sure(LINE, 0)[0]}, {tuple})
        self.assertEqual(type(LINE in sight), bool)

    def test_in_any_value(self):
        sight = Sight(3, [(-3, 2)], [])
        for value in [*values_of_any_kind(), [(-3, 2), (-3, 1)], [(2, -3)], [(-4, 1)], ((-3, 2),), [[-3, 2]], sight]:
            self.assertIs(value in sight, False)
        self.assertIs([(-1, True)] in Sight(1, [], []), False)

    def test_equality(self):
        sights = [(known, opens) for known, opens in all_sights(2)]
        for known, opens in sights:
            for more, others in sights:
                same = (known, opens) == (more, others)
                self.assertIs(Sight(2, known, opens) == Sight(2, more, others), same)
                self.assertIs(Sight(2, known, opens) != Sight(2, more, others), not same)
        self.assertIs(Sight(2, [], []) == Sight(3, [], []), False)
        for value in [*values_of_any_kind(), LINE, (3, [], []), object()]:
            self.assertIs(Sight(3, [], []) == value, False)
            self.assertIs(Sight(3, [], []) != value, True)


class Sums(ErrorChecks, unittest.TestCase):
    def test_all_sights_of_two_pieces(self):
        layouts = all_layouts(2)
        for known, opens in all_sights(2):
            one = Sight(2, known, opens)
            for more, others in all_sights(2):
                other = Sight(2, more, others)
                fitting = [layout for layout in layouts if layout in one and layout in other]
                if not fitting:
                    self.raised_string(Clash, lambda: one + other)
                    continue
                both = one + other
                self.assertEqual([layout for layout in layouts if layout in both], fitting)
                self.assertEqual(both.known, sorted(set(known) | set(more)))
                self.assertEqual(both.opens, sorted(set(opens) | set(others)))
                self.assertEqual(both, other + one)

    def test_both_stay(self):
        one, other = Sight(3, [(-3, 2)], [3]), Sight(3, [(-2, 1)], [])
        both = one + other
        self.assertEqual([both.known, both.opens, both.pieces], [LINE, [3], 3])
        both.known.append("more")
        self.assertEqual([one.known, one.opens, other.known, other.opens], [[(-3, 2)], [3], [(-2, 1)], []])
        self.assertEqual(one + one, one)
        self.assertEqual(one + Sight(3, [], []), one)

    def test_wrong_values(self):
        sight = Sight(3, [(-3, 2)], [3])
        values = [Thing(), Sight, (3, [], []), [(-2, 1)], Sight(2, [], []), Sight(4, [], []), Sight(60, [], [])]
        for value in [*values_of_any_kind(), *values]:
            self.raised_string(InvalidSight, lambda: sight + value)
        # The number of pieces comes first.
        self.raised_string(InvalidSight, lambda: sight + Sight(4, [(-3, 1)], []))
        for more, others in [([(-3, 1)], []), ([(2, 3)], []), ([], [2]), ([], [-3]), ([(-1, 3)], []), (RING, [])]:
            self.raised_string(Clash, lambda: sight + Sight(3, more, others))
            self.raised_string(Clash, lambda: Sight(3, more, others) + sight)
        self.assertEqual([sight.known, sight.opens], [[(-3, 2)], [3]])

    def test_sixty_pieces(self):
        both = Sight(60, LOOPS[:30], [1]) + Sight(60, LOOPS[20:55], [-1, 2])
        self.assertEqual([both.known, both.opens, len(both)], [LOOPS[:55], [-1, 1, 2], 7])
        self.raised_string(Clash, lambda: Sight(60, LOOPS[:30], []) + Sight(60, LONG_ROW[:1], []))
        self.assertEqual((Sight(3, BENT, []) + Sight(3, [], [3])).counts(BENT), [1])
        self.assertEqual((Sight(2, PAIR, []) + Sight(2, BACK, [])).counts([]), [0, 0, 1])


if __name__ == "__main__":
    unittest.main()
