"""Point [23], but for wrong parameters."""

import itertools
import random
import unittest

from crosshitch.errors import Farther, InvalidMove, NothingToUndo
from crosshitch.lists import good_moves, nth_shortest
from crosshitch.moves import kind_of, moved, moves_of
from crosshitch.overlay import fewest_moves, is_shortest, leads, shortest
from crosshitch.yards import GoalYard, Yard
from tests.graph import graph_of
from tests.helpers import ErrorChecks, lists_in, snapshot, values_of_any_kind
from tests.laying import BACK, BENT, LINE, LONG_RING, LONG_ROW, LOOPS, PAIR, RING, laid, some_kinds, some_layout

CLOSING = ([], [(-1, 3)])
OPENING = ([(-1, 3)], [])
CUTTING = ([(-2, 1)], [])


def some_move(pieces, layout, rnd):
    """One of the moves of a layout, also for many pieces."""
    if pieces <= 6:
        return rnd.choice(moves_of(pieces, layout))
    moves = shortest(pieces, layout, some_layout(pieces, rnd.randint(0, pieces), rnd))
    return moves[0] if moves else ([layout[0]], []) if layout else ([], [(-1, 1)])


def state(yard):
    """All that a yard tells."""
    told = [type(yard), yard.pieces, yard.layout, yard.made, len(yard)]
    return told + ([yard.goal, yard.spare, yard.left] if isinstance(yard, GoalYard) else [])


class Yards(ErrorChecks, unittest.TestCase):
    def test_at_first(self):
        for pieces, layout in [(1, []), (1, [(-1, 1)]), (3, LINE), (60, LONG_RING), (60, [])]:
            yard = Yard(pieces, layout)
            self.assertEqual([yard.pieces, yard.layout, yard.made, len(yard)], [pieces, layout, [], 0])
            self.raised_string(NothingToUndo, yard.undo)

    def test_all_moves_of_few_pieces(self):
        for pieces in (1, 2, 3):
            for layout in graph_of(pieces).layouts[::1 if pieces < 3 else 5]:
                for move in moves_of(pieces, layout):
                    yard = Yard(pieces, layout)
                    self.assertEqual(yard.move(move), kind_of(pieces, layout, move))
                    self.assertEqual([yard.layout, yard.made, len(yard)], [moved(pieces, layout, move), [move], 1])
                    self.assertIsNone(yard.undo())
                    self.assertEqual([yard.layout, yard.made, len(yard)], [layout, [], 0])

    def check_run(self, pieces, layout, rnd, steps):
        yard = Yard(pieces, layout)
        layouts, moves = [layout], []
        for _ in range(steps):
            if moves and rnd.random() < 0.3:
                self.assertIsNone(yard.undo())
                layouts.pop()
                moves.pop()
            else:
                move = some_move(pieces, layouts[-1], rnd)
                self.assertEqual(yard.move(move), kind_of(pieces, layouts[-1], move))
                layouts.append(moved(pieces, layouts[-1], move))
                moves.append(move)
            self.assertEqual([yard.layout, yard.made, len(yard)], [layouts[-1], moves, len(moves)])
            self.assertTrue(leads(pieces, layout, yard.layout, yard.made))
        while moves:
            yard.undo()
            moves.pop()
        self.assertEqual([yard.layout, yard.made], [layout, []])
        self.raised_string(NothingToUndo, yard.undo)

    def test_runs(self):
        rnd = random.Random(51)
        for pieces in (1, 2, 3, 5, 6, 20, 60):
            for couplings in (0, pieces // 2, pieces):
                self.check_run(pieces, some_layout(pieces, couplings, rnd), rnd, 40)

    def test_120_moves(self):
        yard = Yard(60, LONG_ROW)
        for number in range(120):
            yard.move(([], [(-1, 60)]) if number % 2 == 0 else ([(-1, 60)], []))
        self.assertEqual([len(yard), yard.layout], [120, LONG_ROW])
        yard = Yard(60, LONG_ROW)
        for _ in range(60):
            yard.move(([], [(-1, 60)]))
            yard.undo()
        self.assertEqual([len(yard), yard.layout], [0, LONG_ROW])

    def test_wrong_moves(self):
        for yard in [Yard(3, LINE), GoalYard(3, LINE, RING, spare=5)]:
            yard.move(CLOSING)
            kept = state(yard)
            wrong = [CLOSING, ([(-3, 1)], []), ([(-2, 1)], [(-2, 1)]), ([], []), [CLOSING], ([], [(3, -1)]), None]
            for value in [*wrong, *values_of_any_kind()]:
                self.raised_string(InvalidMove, yard.move, value)
                self.raised_string(InvalidMove, yard.preview, value)
                self.raised_string(InvalidMove, yard.preview, OPENING, OPENING, value)
                self.assertEqual(state(yard), kept)

    def test_preview(self):
        rnd = random.Random(52)
        for pieces in (1, 2, 3, 5, 20, 60):
            layout = some_layout(pieces, pieces // 2, rnd)
            yard = Yard(pieces, layout)
            now, moves, kinds = layout, [], []
            for _ in range(12):
                self.assertEqual(yard.preview(*moves), kinds)
                move = some_move(pieces, now, rnd)
                kinds.append(kind_of(pieces, now, move))
                now = moved(pieces, now, move)
                moves.append(move)
            self.assertEqual(yard.preview(*moves), kinds)
            self.assertEqual([yard.layout, yard.made], [layout, []])

    def test_empty_preview(self):
        for yard in [Yard(1, []), Yard(60, LOOPS), GoalYard(3, LINE, RING), GoalYard(1, [], [])]:
            kept = state(yard)
            self.assertEqual(yard.preview(), [])
            self.assertEqual(state(yard), kept)

    def test_copies(self):
        layout, move = snapshot(LINE), snapshot(CLOSING)
        yard = Yard(3, layout)
        layout.append((-1, 3))
        self.assertEqual(yard.layout, LINE)
        yard.move(move)
        move[1].append((5, 5))
        self.assertEqual(yard.made, [CLOSING])
        for told in [yard.layout, yard.made, yard.made[0][0], yard.made[0][1], yard.preview(OPENING)]:
            told.append("more")
        self.assertEqual([yard.layout, yard.made, yard.preview(OPENING)], [RING, [CLOSING], ["open"]])
        yard.undo()
        self.assertEqual(yard.layout, LINE)

    def test_no_two_lists_are_one(self):
        yard = GoalYard(3, LINE, BENT, spare=9)
        for move in [CLOSING, OPENING, CLOSING]:
            yard.move(move)
        for told in [yard.made, [yard.layout, yard.layout, yard.goal, yard.goal, yard.made, yard.made]]:
            lists = lists_in(told)
            self.assertEqual(len({id(found) for found in lists}), len(lists))
        self.assertEqual([type(yard.made[0]), type(yard.layout[0])], [tuple, tuple])


class Twins(ErrorChecks, unittest.TestCase):
    def test_twins(self):
        for yard in [Yard(3, LINE), GoalYard(3, LINE, BENT, spare=4)]:
            yard.move(CLOSING)
            twin = yard.twin()
            self.assertEqual(state(twin), state(yard))
            self.assertEqual(twin, yard)
            kept = state(yard)
            twin.undo()
            self.assertEqual([twin.layout, len(twin)], [LINE, 0])
            self.assertEqual(state(yard), kept)
            twin.move(CUTTING)
            self.assertEqual(state(yard), kept)
            kept = state(twin)
            yard.undo()
            yard.move(([], [(-1, 3)]))
            yard.undo()
            self.assertEqual(state(twin), kept)
            self.raised_string(NothingToUndo, yard.undo)
            twin.undo()
            self.assertEqual(state(twin), state(yard))
            self.raised_string(NothingToUndo, twin.undo)

    def test_twins_give_back_what_was_lost(self):
        yard = GoalYard(3, LINE, BENT, spare=5)
        yard.move(CLOSING)
        yard.move(OPENING)
        twin = yard.twin().twin()
        self.assertEqual([twin.spare, twin.left], [3, 1])
        twin.undo()
        self.assertEqual([twin.spare, twin.left], [3, 2])
        twin.undo()
        self.assertEqual([twin.spare, twin.left, yard.spare, yard.left], [5, 1, 3, 1])

    def test_equality(self):
        yards = [
            Yard(3, LINE), Yard(3, BENT), Yard(4, LINE), GoalYard(3, LINE, BENT), GoalYard(3, LINE, RING),
            GoalYard(3, LINE, BENT, spare=1), GoalYard(3, BENT, BENT), GoalYard(4, LINE, BENT), Yard(1, []),
            Yard(2, []),
        ]
        for one, other in itertools.product(range(len(yards)), repeat=2):
            self.assertIs(yards[one] == yards[other], one == other)
            self.assertIs(yards[one] != yards[other], one != other)
        for yard in yards:
            for value in [*values_of_any_kind(), LINE, 3, (3, LINE), Yard, object()]:
                self.assertIs(yard == value, False)

    def test_equality_by_what_is_now(self):
        one, other = Yard(3, LINE), Yard(3, RING)
        self.assertIs(one == other, False)
        one.move(CLOSING)
        self.assertIs(one == other, True)
        self.assertEqual([len(one), len(other)], [1, 0])
        one, other = GoalYard(3, LINE, BENT, spare=2), GoalYard(3, RING, BENT)
        self.assertIs(one == other, False)
        one.move(CLOSING)
        self.assertIs(one == other, True)
        one.undo()
        self.assertIs(one == GoalYard(3, LINE, BENT, spare=2), True)


class GoalYards(ErrorChecks, unittest.TestCase):
    def test_at_first(self):
        for pieces, layout, goal in [(1, [], []), (3, LINE, BENT), (2, PAIR, BACK), (60, LONG_RING, LOOPS)]:
            yard = GoalYard(pieces, layout, goal)
            left = fewest_moves(pieces, layout, goal)
            self.assertEqual(state(yard), [GoalYard, pieces, layout, [], 0, goal, 0, left])
            self.assertEqual(GoalYard(pieces, layout, goal, spare=10 ** 199).spare, 10 ** 199)
            self.assertIsInstance(yard, Yard)
            self.raised_string(NothingToUndo, yard.undo)

    def test_all_moves_of_two_pieces(self):
        graph = graph_of(2)
        for one, goal, spare in itertools.product(range(10), range(10), range(3)):
            left = graph.distances[one][goal]
            for move, after in graph.steps[one]:
                yard = GoalYard(2, graph.layouts[one], graph.layouts[goal], spare=spare)
                kept = state(yard)
                there = graph.distances[after][goal]
                lost = {-1: 0, 0: 1, 1: 2}[there - left]
                kind = kind_of(2, graph.layouts[one], move)
                if lost > spare:
                    for function in [yard.move, yard.preview]:
                        self.assertEqual(self.raised(Farther, function, move).moves, there)
                        self.assertEqual(state(yard), kept)
                    continue
                self.assertEqual(yard.preview(move), [kind])
                self.assertEqual(state(yard), kept)
                self.assertEqual(yard.move(move), kind)
                self.assertEqual([yard.left, yard.spare, yard.layout], [there, spare - lost, graph.layouts[after]])
                yard.undo()
                self.assertEqual(state(yard), kept)

    def test_runs(self):
        rnd = random.Random(53)
        for pieces in (1, 2, 3, 5, 20, 60):
            for _ in range(4):
                layout, goal = [some_layout(pieces, rnd.randint(0, pieces), rnd) for _ in range(2)]
                self.check_run(pieces, layout, goal, rnd)

    def check_run(self, pieces, layout, goal, rnd):
        spare = rnd.randint(0, 12)
        yard = GoalYard(pieces, layout, goal, spare=spare)
        states = [(layout, spare)]
        for _ in range(40):
            now, spare = states[-1]
            left = fewest_moves(pieces, now, goal)
            if len(states) > 1 and rnd.random() < 0.25:
                yard.undo()
                states.pop()
            else:
                move = some_move(pieces, now, rnd)
                after = moved(pieces, now, move)
                there = fewest_moves(pieces, after, goal)
                lost = there + 1 - left
                if lost > spare:
                    self.assertEqual(self.raised(Farther, yard.move, move).moves, there)
                else:
                    self.assertEqual(yard.move(move), kind_of(pieces, now, move))
                    states.append((after, spare - lost))
            self.assertEqual((yard.layout, yard.spare), states[-1])
            self.assertEqual([yard.left, len(yard)], [fewest_moves(pieces, yard.layout, goal), len(states) - 1])
            self.assertEqual(yard.goal, goal)

    def test_nothing_may_be_lost(self):
        for one, goal in [(LINE, BENT), (RING, []), ([], RING), (PAIR, BACK)]:
            yard = GoalYard(3, one, goal)
            moves = nth_shortest(3, one, goal, 0)
            for move in moves:
                for other in moves_of(3, yard.layout):
                    there = fewest_moves(3, moved(3, yard.layout, other), goal)
                    if there >= yard.left:
                        self.assertEqual(self.raised(Farther, yard.move, other).moves, there)
                yard.move(move)
            self.assertEqual([yard.layout, yard.left, yard.spare, yard.made], [goal, 0, 0, moves])
            self.assertIsNone(yard.next_good())

    def test_lost_moves_count_in_a_preview(self):
        yard = GoalYard(3, LINE, BENT, spare=3)
        self.assertEqual(yard.preview(CLOSING, OPENING), ["close", "open"])
        # The way there and back loses two moves, so that one is left.
        self.assertEqual(self.raised(Farther, yard.preview, CLOSING, OPENING, CLOSING).moves, 2)
        self.raised_string(InvalidMove, yard.preview, CLOSING, OPENING, OPENING, CLOSING)
        self.assertEqual([yard.spare, yard.left, yard.made, yard.layout], [3, 1, [], LINE])
        yard = GoalYard(3, LINE, BENT, spare=4)
        self.assertEqual(yard.preview(CLOSING, OPENING, CLOSING, OPENING), ["close", "open"] * 2)

    def test_the_move_comes_ahead_of_what_is_lost(self):
        yard = GoalYard(3, LINE, BENT)
        self.raised_string(InvalidMove, yard.move, OPENING)
        self.assertEqual(self.raised(Farther, yard.move, CLOSING).moves, 2)
        self.assertEqual(self.raised(Farther, yard.preview, CLOSING, OPENING).moves, 2)

    def test_copies(self):
        goal = snapshot(BENT)
        yard = GoalYard(3, LINE, goal)
        goal.clear()
        yard.goal.clear()
        self.assertEqual([yard.goal, yard.left], [BENT, 1])
        yard.next_good()[0].append("more")
        self.assertEqual(yard.next_good(), ([(-3, 2), (-2, 1)], [(-3, -2), (1, 2)]))


class NextGood(unittest.TestCase):
    def test_all_layouts_of_few_pieces(self):
        for pieces in (1, 2, 3):
            graph = graph_of(pieces)
            for one, layout in enumerate(graph.layouts):
                for other, goal in enumerate(graph.layouts):
                    good = graph.good(one, other)
                    self.assertEqual(GoalYard(pieces, layout, goal).next_good(), good[0][0] if good else None)

    def test_thirty_pieces(self):
        rnd = random.Random(54)
        for number in range(30):
            words = [("ring",), ("ring", "odd"), ("ring", "odd", "one"), ("ring", "odd", "one", "other")][number % 4]
            pieces = rnd.choice([8, 16, 30])
            layout, goal = laid(pieces, some_kinds(2 * pieces, rnd, words, rnd.choice([2, 6, 20])), number)
            yard = GoalYard(pieces, layout, goal)
            while yard.left:
                move = yard.next_good()
                if len(yard) < 3:
                    self.assertEqual(move, good_moves(pieces, yard.layout, goal)[0])
                self.assertIsInstance(yard.move(move), str)
            self.assertEqual([yard.layout, yard.spare, yard.next_good()], [goal, 0, None])
            self.assertTrue(is_shortest(pieces, layout, goal, yard.made))

    def test_along_the_first_shortest_list(self):
        rnd = random.Random(55)
        for pieces in (2, 3, 4, 6, 8):
            one, goal = [some_layout(pieces, rnd.randint(0, pieces), rnd) for _ in range(2)]
            yard = GoalYard(pieces, one, goal)
            for move in nth_shortest(pieces, one, goal, 0):
                self.assertEqual(yard.next_good(), move)
                yard.move(move)
            self.assertIsNone(yard.next_good())


if __name__ == "__main__":
    unittest.main()
