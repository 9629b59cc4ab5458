"""Point [25], but for wrong texts, which are in the tests of texts."""

import random
import unittest

from crosshitch.between import counts_between
from crosshitch.console import Console
from crosshitch.errors import InvalidCommand, InvalidMove, InvalidPieces, InvalidText, NothingToUndo
from crosshitch.lists import count_shortest, good_moves
from crosshitch.moves import count_moves, kind_of, moved, moves_of
from crosshitch.overlay import fewest_moves
from crosshitch.shells import counts_by_moves
from crosshitch.texts import show_layout, show_move
from tests.helpers import ErrorChecks, all_layouts, values_of_any_kind
from tests.laying import LONG_RING, LONG_ROW, LOOPS, laid, some_layout

OF_THE_GOAL = ["left", "good", "lists", "between"]


def console_with(pieces, layout, goal=None):
    console = Console()
    commands = [f"pieces {pieces}", f"layout {show_layout(pieces, layout)}"]
    if goal is not None:
        commands.append(f"goal {show_layout(pieces, goal)}")
    for command in commands:
        assert console.execute(command) == "ok"
    return console


def told(console):
    """All that a console tells of its yard."""
    return [console.execute(command) for command in ["show", "count", "shells"]]


class Commands(ErrorChecks, unittest.TestCase):
    def check_all(self, console, pieces, layout, goal):
        self.assertEqual(console.execute("show"), show_layout(pieces, layout))
        self.assertEqual(console.execute("count"), str(count_moves(pieces, layout)))
        self.assertEqual(console.execute("shells"), " ".join(map(str, counts_by_moves(pieces, layout))))
        self.assertEqual(console.execute("left"), str(fewest_moves(pieces, layout, goal)))
        self.assertEqual(console.execute("lists"), str(count_shortest(pieces, layout, goal)))
        self.assertEqual(console.execute("between"), " ".join(map(str, counts_between(pieces, layout, goal))))
        if pieces <= 16:
            good = good_moves(pieces, layout, goal)
            expected = show_move(pieces, layout, good[0]) if good else "none"
            self.assertEqual(console.execute("good"), expected)

    def test_all_layouts_of_two_pieces(self):
        for layout in all_layouts(2):
            for goal in all_layouts(2):
                self.check_all(console_with(2, layout, goal), 2, layout, goal)

    def test_some_layouts(self):
        rnd = random.Random(71)
        for pieces in (1, 3, 4, 8, 16, 60):
            for _ in range(12):
                layout, goal = [some_layout(pieces, rnd.randint(0, pieces), rnd) for _ in range(2)]
                self.check_all(console_with(pieces, layout, goal), pieces, layout, goal)
                self.check_all(console_with(pieces, layout, layout), pieces, layout, layout)

    def test_runs(self):
        rnd = random.Random(72)
        for pieces in (1, 2, 3, 5):
            layout, goal = [some_layout(pieces, rnd.randint(0, pieces), rnd) for _ in range(2)]
            console = console_with(pieces, layout, goal)
            layouts = [layout]
            for _ in range(50):
                now = layouts[-1]
                if len(layouts) > 1 and rnd.random() < 0.4:
                    self.assertEqual(console.execute("undo"), "ok")
                    layouts.pop()
                else:
                    move = rnd.choice(moves_of(pieces, now))
                    text = show_move(pieces, now, move)
                    self.assertEqual(console.execute(f"move {text}"), kind_of(pieces, now, move))
                    layouts.append(moved(pieces, now, move))
                self.check_all(console, pieces, layouts[-1], goal)

    def test_along_the_good_moves(self):
        for number, pieces in enumerate([2, 3, 8, 30, 60]):
            kinds = [("one", 1), ("other", 1)] + [("ring", pieces // 3), ("odd", pieces // 4)][:pieces // 4]
            layout, goal = laid(pieces, kinds, number)
            console = console_with(pieces, layout, goal)
            for left in range(fewest_moves(pieces, layout, goal), 0, -1):
                self.assertEqual(console.execute("left"), str(left))
                console.execute("move " + console.execute("good"))
            self.assertEqual([console.execute(command) for command in ["left", "good", "lists", "between", "show"]],
                             ["0", "none", "1", "1", show_layout(pieces, goal)])

    def test_at_first(self):
        console = Console()
        self.assertEqual(told(console), ["1", "1", "1 1"])
        self.raised_string(NothingToUndo, console.execute, "undo")
        for command in OF_THE_GOAL:
            self.raised_string(InvalidCommand, console.execute, command)
        self.assertEqual(console.execute("move join -1/1"), "close")
        self.assertEqual(told(console), ["(1)", "1", "1 1"])
        self.assertEqual([console.execute("goal "), console.execute("good")], ["ok", "cut -1/1"])

    def test_pieces(self):
        for pieces in (1, 2, 3, 10, 59, 60):
            console = console_with(3, [(-3, 2), (-2, 1)], [])
            console.execute("move cut -2/1")
            self.assertEqual(console.execute(f"pieces {pieces}"), "ok")
            self.assertEqual(console.execute("show"), ", ".join(map(str, range(1, pieces + 1))))
            self.raised_string(NothingToUndo, console.execute, "undo")
            for command in OF_THE_GOAL:
                self.raised_string(InvalidCommand, console.execute, command)

    def test_layout_keeps_the_goal(self):
        console = console_with(3, [(-3, 2), (-2, 1)], [(-1, 1)])
        console.execute("move cut -2/1")
        self.assertEqual(console.execute("layout (1)"), "ok")
        self.assertEqual([console.execute("show"), console.execute("left")], ["2, 3, (1)", "0"])
        self.raised_string(NothingToUndo, console.execute, "undo")
        self.assertEqual([console.execute("layout "), console.execute("show"), console.execute("left")],
                         ["ok", "1, 2, 3", "1"])
        self.assertEqual([console.execute("goal "), console.execute("left")], ["ok", "0"])
        self.assertEqual([console.execute("goal (-3 -2 -1)"), console.execute("left")], ["ok", "3"])

    def test_goal_keeps_the_moves(self):
        console = console_with(2, [(-2, 1)])
        console.execute("move cut -2/1")
        console.execute("goal 1 2")
        self.assertEqual([console.execute(command) for command in ["show", "left", "undo", "show", "left"]],
                         ["1, 2", "1", "ok", "1 2", "0"])

    def test_consoles_are_apart(self):
        one, other = console_with(3, [(-1, 1)], []), Console()
        other.execute("pieces 2")
        self.assertEqual([one.execute("show"), one.execute("left"), other.execute("show")], ["2, 3, (1)", "1", "1, 2"])

    def test_sixty_pieces(self):
        for layout, goal in [(LONG_RING, LOOPS), ([], LONG_ROW), (LOOPS, [])]:
            console = console_with(60, layout, goal)
            self.check_all(console, 60, layout, goal)
            move = console.execute("good")
            self.assertIn(console.execute(f"move {move}"), ["part", "join", "open"])
            self.assertEqual(console.execute("left"), str(fewest_moves(60, layout, goal) - 1))


class Errors(ErrorChecks, unittest.TestCase):
    def setUp(self):
        self.console = console_with(3, [(-3, 2)], [(-2, 1)])
        self.console.execute("move cut -3/2")
        self.kept = told(self.console)

    def tearDown(self):
        """A call that raises an error changes nothing."""
        self.assertEqual(told(self.console), self.kept)
        self.assertEqual([self.console.execute("left"), self.console.execute("undo"), self.console.execute("show")],
                         ["1", "ok", "1, 2 3"])
        self.raised_string(NothingToUndo, self.console.execute, "undo")

    def test_no_commands(self):
        for command in [
            "", " ", "Show", "shows", "show ", " show", "show 1", "show\n", "\nshow", "undo ", "undo 1", "count 3",
            "left ", "left 1", "good x", "lists ", "between ", "shells ", "layout", "goal", "move", "pieces", "pieces ",
            "pieces  3", "pieces 3 ", "pieces 3 4", "pieces -1", "pieces +3", "pieces 03", "pieces 00", "pieces x",
            "pieces 3.0", "pieces 1_0", "pieces 3\n", "pieces\n3", "pieces " + "1" * 31, "pieces 0" + "1" * 29,
            "pieces " + "9" * 3993, "layout\t1", "layout\n1", "goto 1", "help", "none", "ok", "move\n", "layouts 1",
            "LAYOUT 1", "undo undo", "a" * 4000, "undo, show", "execute show", "goal\n1",
        ]:
            self.raised_string(InvalidCommand, self.console.execute, command)

    def test_values_of_any_kind(self):
        for value in values_of_any_kind():
            self.raised_string(InvalidCommand, self.console.execute, value)
        for value in [b"show", ["show"], ("show",), {"show": 1}]:
            self.raised_string(InvalidCommand, self.console.execute, value)

    def test_numbers_of_pieces(self):
        for number in ["0", "61", "100", "1" * 30, "9" * 30]:
            self.raised_string(InvalidPieces, self.console.execute, f"pieces {number}")

    def test_texts_of_layouts(self):
        for word in ["layout", "goal"]:
            for text, part in [(" ", 0), (" 1", 0), ("1 ", 0), ("1, 4", 1), ("1, 1", 1), ("(1) ", 0), ("1 2, (3", 1),
                               ("1\n", 0), ("x", 0), ("1  2", 0), (", ", 0)]:
                self.assertEqual(self.raised(InvalidText, self.console.execute, f"{word} {text}").part, part)

    def test_texts_of_moves(self):
        for text, part in [("", 0), (" ", 0), (" join -1/3", 0), ("join", 1), ("join -1/3 ", 2), ("join -1/4", 1),
                           ("cut -3/2", 2), ("cut -3/2 join", 3), ("close", 0), ("join 3/-1", 1)]:
            self.assertEqual(self.raised(InvalidText, self.console.execute, f"move {text}").part, part)


class WithoutAGoal(ErrorChecks, unittest.TestCase):
    def test_commands(self):
        console = console_with(3, [(-3, 2)])
        for command in OF_THE_GOAL:
            self.raised_string(InvalidCommand, console.execute, command)
        self.raised(InvalidText, console.execute, "goal 4")
        for command in OF_THE_GOAL:
            self.raised_string(InvalidCommand, console.execute, command)
        self.assertEqual(told(console)[0], "1, 2 3")
        self.assertEqual([console.execute("goal "), console.execute("left")], ["ok", "1"])
        console.execute("pieces 3")
        for command in OF_THE_GOAL:
            self.raised_string(InvalidCommand, console.execute, command)

    def test_no_move_of_the_layout(self):
        """Such a text is wrong, so that InvalidMove is never raised."""
        console = console_with(2, [(-2, 1)])
        for text in ["join -2/1", "cut -1/2", "cut -2/1 join -2/1"]:
            error = self.raised(InvalidText, console.execute, f"move {text}")
            self.assertEqual(error.part, len(text.split(" ")))
            self.assertNotIsInstance(error, InvalidMove)


if __name__ == "__main__":
    unittest.main()
