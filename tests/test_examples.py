"""The examples of the document, as they stand there."""

import doctest
import pathlib
import unittest

LAYOUTS = """
>>> line, bent, ring = [(-3, 2), (-2, 1)], [(-3, -2), (1, 2)], [(-3, 2), (-2, 1), (-1, 3)]
>>> pair, back = [(-2, 1)], [(-1, 2)]
"""

POINT_6 = """
>>> from crosshitch.layouts import layout_of, rings_of, rows_of
>>> rows_of(4, [(-3, -2), (1, 2)])
[[1, -2, 3], [4]]
>>> rings_of(4, [(-3, -2), (1, 2)])
[]
>>> rings_of(2, [(-2, 1), (-1, 2)])
[[1, 2]]
>>> rows_of(2, [(-2, 1), (-1, 2)])
[]
>>> layout_of(4, [[1, -2, 3], [4]], [])
[(-3, -2), (1, 2)]
>>> layout_of(2, [], [[1, 2]])
[(-2, 1), (-1, 2)]
"""

POINT_16 = """
>>> from crosshitch.layouts import count_layouts, is_layout, layout_of, open_ends, partner_of, partners_of
>>> from crosshitch.layouts import rings_of, rows_of
>>> [is_layout(3, line), is_layout(3, [(1, -2)]), is_layout(3, [(-2, 1), (-3, 2)]), count_layouts(2), count_layouts(3)]
[True, False, False, 10, 76]
>>> [rows_of(4, bent), rings_of(3, ring), open_ends(4, bent), partner_of(3, bent, 2), partners_of(3, bent)]
[[[1, -2, 3], [4]], [[1, 2, 3]], [-4, -1, 3, 4], 1, [-2, -3, 0, 2, 1, 0]]
>>> layout_of(5, [[-3, 2, -1]], [[5, 4]])
[(-5, 4), (-4, 5), (-3, -2), (1, 2)]
"""

POINT_17 = """
>>> from crosshitch.moves import count_moves, is_move, kind_of, moved, moves_of
>>> [moved(3, line, ([(-3, 2), (-2, 1)], [(-3, -2), (1, 2)])) == bent, count_moves(3, line), moves_of(1, [])]
[True, 13, [([], [(-1, 1)])]]
>>> [kind_of(3, line, move) for move in [([], [(-1, 3)]), ([(-2, 1)], [(-1, 1)]), ([(-2, 1)], [(-2, -1)])]]
['close', 'let', 'turn']
>>> [is_move(3, line, ([(-3, 2)], [(-3, 2)])), is_move(3, line, ([(-3, 2)], [(-2, 1)]))]
[False, False]
"""

POINT_18 = """
>>> from crosshitch.overlay import components_of, fewest_moves, is_shortest, leads, shortest
>>> components_of(3, line, bent)
[('odd', [-1]), ('odd', [3]), ('ring', [-3, 2, 1, -2])]
>>> [fewest_moves(3, line, bent), shortest(3, line, bent), components_of(2, pair, back)]
[1, [([(-3, 2), (-2, 1)], [(-3, -2), (1, 2)])], [('one', [-2, 1]), ('other', [-1, 2])]]
>>> lists = [[([], [(-1, 2)]), ([(-2, 1)], [])], [([(-2, 1)], []), ([], [(-1, 1)]), ([(-1, 1)], [(-1, 2)])]]
>>> [[leads(2, pair, back, value) for value in lists], [is_shortest(2, pair, back, value) for value in lists]]
[[True, True], [True, False]]
"""

POINT_19 = """
>>> from crosshitch.lists import count_shortest, count_through, good_moves, nth_shortest, shortest_index
>>> [count_shortest(2, pair, back), count_shortest(3, ring, [(-3, 1), (-2, 3), (-1, 2)]), count_through(2, pair, back, [])]
[6, 3, 1]
>>> good_moves(2, pair, back)[:3]
[([], [(-1, 2)]), ([(-2, 1)], []), ([(-2, 1)], [(-2, -1)])]
>>> [nth_shortest(2, pair, back, 2), shortest_index(2, pair, back, [([(-2, 1)], []), ([], [(-1, 2)])])]
[[([(-2, 1)], [(-2, -1)]), ([(-2, -1)], [(-1, 2)])], 1]
"""

POINT_20 = """
>>> from crosshitch.between import all_between, count_between, counts_between, first_behind, is_between, last_ahead
>>> [counts_between(2, pair, back), counts_between(3, ring, [(-3, 1), (-2, 3), (-1, 2)]), count_between(3, line, bent)]
[[1, 6, 1], [1, 3, 1], 2]
>>> [is_between(2, pair, back, []), is_between(2, pair, back, [(-1, 1)]), all_between(1, [], [(-1, 1)])]
[True, True, [[], [(-1, 1)]]]
>>> [first_behind(2, pair, [], pair, []), last_ahead(2, pair, [], pair, [])]
[[], [(-2, 1)]]
"""

POINT_21 = """
>>> from crosshitch.shells import counts_by_moves, index_at, mean_moves, nth_at
>>> [counts_by_moves(1, []), counts_by_moves(2, []), counts_by_moves(2, [(-2, 1), (-1, 2)]), mean_moves(2, [])]
[[1, 1], [1, 6, 3], [1, 4, 5], (6, 5)]
>>> [nth_at(2, [], 1, 0), index_at(2, [], back), nth_at(2, pair, 0, 0)]
[[(-2, -1)], 3, [(-2, 1)]]
"""

POINT_22 = """
>>> from crosshitch.sights import Sight
>>> sight = Sight(2, [], [2])
>>> [len(sight), sight.counts(pair), back in sight, pair in sight, sight.nth(pair, 1, 0)]
[3, [1, 3], False, True, [(-2, -1)]]
>>> [sight.fewest(pair), sight.most(pair)[0], sight.sure(pair, 0), sight.sure(pair, 1), (sight + Sight(2, pair, [])).known]
[(0, [(-2, 1)]), 1, ([(-2, 1)], [-1, 2]), ([], [2]), [(-2, 1)]]
"""

POINT_23 = """
>>> from crosshitch.overlay import shortest
>>> from crosshitch.yards import GoalYard, Yard
>>> yard = GoalYard(3, line, bent, spare=2)
>>> [yard.left, yard.move(([], [(-1, 3)])), yard.left, yard.spare, yard.undo(), yard.spare, yard.next_good() == shortest(3, line, bent)[0]]
[1, 'close', 2, 0, None, 2, True]
>>> from crosshitch.errors import Farther
>>> try:
...     GoalYard(3, line, bent).move(([], [(-1, 3)]))
... except Farther as error:
...     error.moves
2
"""

POINT_24 = """
>>> from crosshitch.layouts import layout_of
>>> from crosshitch.texts import read_layout, read_move, show_layout, show_move
>>> [show_layout(4, bent), show_layout(5, layout_of(5, [[1, 3]], [[4, 5], [-2]])), read_layout(3, "(2 3 1)") == ring]
['1 -2 3, 4', '1 3, (2), (4 5)', True]
>>> [show_move(3, line, ([(-2, 1)], [(-1, 1)])), read_move(3, line, "join -1/3")]
['cut -2/1 join -1/1', ([], [(-1, 3)])]
"""

POINT_25 = """
>>> from crosshitch.console import Console
>>> console = Console()
>>> [console.execute(command) for command in ["pieces 3", "layout 1 2 3", "goal 1 -2 3", "left", "good", "lists", "between"]]
['ok', 'ok', 'ok', '1', 'cut -3/2 -2/1 join -3/-2 1/2', '1', '1 1']
>>> [console.execute(command) for command in ["move join -1/3", "show", "left", "undo", "show", "shells"]]
['close', '(1 2 3)', '2', 'ok', '1 2 3', '1 13 45 17']
"""


class Examples(unittest.TestCase):
    def check(self, text):
        test = doctest.DocTestParser().get_doctest(LAYOUTS + text, {}, "example", None, 0)
        told = []
        runner = doctest.DocTestRunner(verbose=False)
        runner.run(test, out=told.append)
        self.assertEqual(runner.failures, 0, "".join(told))
        self.assertEqual(runner.tries, LAYOUTS.count(">>>") + text.count(">>>"))

    def test_point_6(self):
        self.check(POINT_6)

    def test_point_16(self):
        self.check(POINT_16)

    def test_point_17(self):
        self.check(POINT_17)

    def test_point_18(self):
        self.check(POINT_18)

    def test_point_19(self):
        self.check(POINT_19)

    def test_point_20(self):
        self.check(POINT_20)

    def test_point_21(self):
        self.check(POINT_21)

    def test_point_22(self):
        self.check(POINT_22)

    def test_point_23(self):
        self.check(POINT_23)

    def test_point_24(self):
        self.check(POINT_24)

    def test_point_25(self):
        self.check(POINT_25)

    def test_readme(self):
        readme = pathlib.Path(__file__).parent.parent / "README.md"
        blocks = [block for block in readme.read_text(encoding="ascii").split("```") if ">>>" in block]
        self.assertTrue(blocks)
        for block in blocks:
            self.check(block)


if __name__ == "__main__":
    unittest.main()
