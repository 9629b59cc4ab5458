"""Points [2], [3] and [15] for sights, yards, texts and the console: wrong values for each parameter."""

import unittest

from crosshitch.console import Console
from crosshitch.errors import HitchError, InvalidLayout, InvalidMove, InvalidNumber, InvalidOpens, InvalidPieces
from crosshitch.errors import InvalidText
from crosshitch.sights import Sight
from crosshitch.texts import read_layout, read_move, show_layout, show_move
from crosshitch.yards import GoalYard, Yard
from tests.helpers import ErrorChecks, all_ends, snapshot, values_of_any_kind
from tests.test_errors_of_pairs import WRONG_LAYOUTS, WRONG_NUMBERS, WRONG_PIECES

ONE, OTHER = [(-2, 1)], [(-1, 2), (3, 4)]
MOVE = ([(-2, 1)], [(-2, 4)])
SIGHT = Sight(4, [(-2, 1)], [-4, 3])
WRONG_MOVES = [
    None, True, 1, "", "cut -2/1", b"", [], (), {}, [[(-2, 1)], []], ([], []), ([(-2, 1)],), ([(-2, 1)], [], []),
    ([(-2, 1)], [(-2, 1)]), ([(-3, 1)], []), ([], [(1, 4)]), ([], [(4, 3)]), ([[-2, 1]], []), (((-2, 1),), []),
    ([(-2, 1)], None), ([(1, -2)], []), ([], [(-1, True)]), ([(-2, 1)], [(-2, 5)]), ([(-2, 1)], [(-1, 3)]),
]
# With known couplings [(-2, 1)] of four pieces.
WRONG_OPENS = [
    ([0], 0), ([5], 0), ([-5], 0), ([1], 0), ([-2], 0), ([-4, 1], 1), ([-4, -2, 3], 1), ([3, 3], 1), ([3, -4], 1),
    ([-4, -3, 4, 3], 3), ([True], 0), ([-4, False], 1), ([None], 0), (["3"], 0), ([(3,)], 0), ([[3]], 0),
    ([10 ** 199], 0), ([-10 ** 199, 3], 0), ([-4, 3, 10 ** 30], 2), ([3] * 400, 1), ([3, None, None], 1), ((), None),
    ((3,), None), ("", None), ("3", None), ({}, None), ({3}, None), ({3: 3}, None), (None, None), (3, None),
    (range(3, 5), None), (iter([3]), None), (True, None), (b"", None),
]


def goal_yard(pieces, layout, goal, spare):
    return GoalYard(pieces, layout, goal, spare=spare)


# What is passed for each parameter: pieces (P), layouts (L), numbers (N), moves (M), open ends (O), texts of layouts
# (T) and of moves (W).
CALLS = [
    (Sight, "PLO", (4, ONE, [-4, 3])), (Yard, "PL", (4, ONE)), (GoalYard, "PLL", (4, ONE, OTHER)),
    (goal_yard, "PLLN", (4, ONE, OTHER, 3)), (SIGHT.counts, "L", (OTHER,)), (SIGHT.fewest, "L", (OTHER,)),
    (SIGHT.most, "L", (OTHER,)), (SIGHT.nth, "LNN", (OTHER, 3, 1)), (SIGHT.sure, "LN", (OTHER, 3)),
    (show_layout, "PL", (4, ONE)), (show_move, "PLM", (4, ONE, MOVE)), (read_layout, "PT", (4, "1 2, (3)")),
    (read_move, "PLW", (4, ONE, "cut -2/1 join -2/4")),
]
ERRORS = {"P": InvalidPieces, "L": InvalidLayout, "N": InvalidNumber, "M": InvalidMove, "O": InvalidOpens}
WRONG = {
    "P": [(value, None) for value in WRONG_PIECES], "L": WRONG_LAYOUTS, "N": [(value, None) for value in WRONG_NUMBERS],
    "M": [(value, None) for value in WRONG_MOVES], "O": WRONG_OPENS,
    "T": [(None, None), (1, None), (b"1", None), (["1"], None), ("5", 0), ("1, x", 1), ("1 2, 3, 2", 2)],
    "W": [(None, None), (1, None), (b"cut -2/1", None), (["cut", "-2/1"], None), ("", 0), ("cut", 1), ("cut -2/5", 1),
          ("join -2/1", 2), ("cut -2/1 join -2/4 ", 4)],
}


class WrongParameters(ErrorChecks, unittest.TestCase):
    def check(self, kind, field, call, arguments):
        if kind in "TW":
            self.assertEqual(self.raised(InvalidText, call, *arguments).part, field)
        elif kind in "LO":
            self.raised_index(ERRORS[kind], field, call, *arguments)
        else:
            self.raised_string(ERRORS[kind], call, *arguments)

    def test_right_parameters(self):
        for call, _, arguments in CALLS:
            call(*arguments)

    def test_each_parameter(self):
        for call, kinds, arguments in CALLS:
            for at, kind in enumerate(kinds):
                for value, field in WRONG[kind]:
                    self.check(kind, field, call, [*arguments[:at], value, *arguments[at + 1:]])

    def test_the_first_wrong_parameter(self):
        for call, kinds, arguments in CALLS:
            for at, kind in enumerate(kinds):
                for behind in [None, [(1, -1)], [(-9, 9)], -1, "wrong", ([], [])]:
                    for value, field in WRONG[kind][::3]:
                        rest = [behind for _ in kinds[at + 1:]]
                        self.check(kind, field, call, [*arguments[:at], value, *rest])

    def test_values_of_any_kind(self):
        for call, kinds, arguments in CALLS:
            for at, kind in enumerate(kinds):
                for value in values_of_any_kind():
                    if (kind == "N" and type(value) == int and value >= 0) or (kind in "TW" and isinstance(value, str)):
                        continue
                    field = 0 if isinstance(value, list) and kind in "LO" else None
                    self.check(kind, field, call, [*arguments[:at], value, *arguments[at + 1:]])
                    if kind in "LO":
                        self.check(kind, 0, call, [*arguments[:at], [value], *arguments[at + 1:]])

    def test_parameters_stay(self):
        for call, kinds, arguments in CALLS:
            kept = snapshot(arguments)
            first = call(*arguments)
            self.assertEqual(arguments, kept)
            self.assertEqual(call(*arguments), first)
            for at, kind in enumerate(kinds):
                for value, field in WRONG[kind][:20]:
                    kept_value = snapshot(value)
                    self.check(kind, field, call, [*arguments[:at], value, *arguments[at + 1:]])
                    self.assertEqual((arguments, value), (kept, kept_value))

    def test_methods_change_nothing(self):
        self.assertEqual([SIGHT.pieces, SIGHT.known, SIGHT.opens, len(SIGHT)], [4, [(-2, 1)], [-4, 3], 4])


class Opens(ErrorChecks, unittest.TestCase):
    def test_every_list_of_up_to_three_items(self):
        ends = all_ends(2)
        items = [*ends, 0, 3, -3, True, None]
        for known in [[], [(-2, 1)], [(-2, 1), (-1, 2)]]:
            coupled = [end for coupling in known for end in coupling]
            for opens in [[one, two, three][:size] for one in items for two in items for three in items
                          for size in (0, 1, 2, 3)]:
                wrong = (index for index, end in enumerate(opens)
                         if type(end) != int or end not in ends or end in coupled
                         or end <= max(opens[:index], default=-3))
                index = next(wrong, None)
                if index is None:
                    self.assertEqual(Sight(2, known, opens).opens, opens)
                else:
                    self.raised_index(InvalidOpens, index, Sight, 2, known, opens)

    def test_sixty_pieces(self):
        self.assertEqual(Sight(60, [], all_ends(60)).opens, all_ends(60))
        self.raised_index(InvalidOpens, 120, Sight, 60, [], [*all_ends(60), 61])
        self.raised_index(InvalidOpens, 119, Sight, 60, [], [*all_ends(60)[:-1], 59])


class OfYards(ErrorChecks, unittest.TestCase):
    def test_moves(self):
        for yard in [Yard(4, ONE), GoalYard(4, ONE, OTHER, spare=9)]:
            yard.move(([], [(3, 4)]))
            for value in WRONG_MOVES:
                self.raised_string(InvalidMove, yard.move, value)
                self.raised_string(InvalidMove, yard.preview, value)
                self.raised_string(InvalidMove, yard.preview, ([(3, 4)], []), value, None)
            self.assertEqual([yard.layout, yard.made], [[(-2, 1), (3, 4)], [([], [(3, 4)])]])

    def test_spare(self):
        for value in [*WRONG_NUMBERS, -2]:
            self.raised_string(InvalidNumber, goal_yard, 4, ONE, OTHER, value)
            self.raised_index(InvalidLayout, None, goal_yard, 4, ONE, None, value)
            self.raised_index(InvalidLayout, 0, goal_yard, 4, [(1, -1)], None, value)
            self.raised_string(InvalidPieces, goal_yard, 0, None, None, value)
        for spare in [0, 1, 2, 10 ** 199]:
            self.assertEqual(goal_yard(4, ONE, OTHER, spare).spare, spare)


class NumbersBehindAllOthers(ErrorChecks, unittest.TestCase):
    def test_numbers_that_are_too_great(self):
        for moves, index in [(0, 0), (3, 10), (9, 0), (10 ** 199, 0), (0, 10 ** 199), (3, 10 ** 199)]:
            self.raised_string(InvalidNumber, SIGHT.nth, OTHER, moves, index)
            self.raised_string(InvalidNumber, SIGHT.nth, OTHER, moves, -1)
            self.raised_index(InvalidLayout, None, SIGHT.nth, None, moves, index)
        many = SIGHT.counts(OTHER)[3]
        self.raised_string(InvalidNumber, SIGHT.nth, OTHER, 3, many)
        self.assertEqual(len({tuple(SIGHT.nth(OTHER, 3, index)) for index in range(many)}), many)

    def test_no_other_errors(self):
        """Whatever is passed to a command, no error of Python's own comes out."""
        console = Console()
        commands = ["pieces 3", "layout 1 2", "goal (3)", "move cut -2/1", "undo", "good", "left", "between", "lists"]
        for command in commands:
            for text in [command, command[:-1], command + " ", command + " 1", command.replace(" ", "  "), command[1:]]:
                try:
                    console.execute(text)
                except HitchError:
                    pass


if __name__ == "__main__":
    unittest.main()
