"""The examples of the document, as they stand there."""

import doctest
import pathlib
import unittest

LAYOUTS = """
>>> line, bent, ring = [(-3, 2), (-2, 1)], [(-3, -2), (1, 2)], [(-3, 2), (-2, 1), (-1, 3)]
>>> pair, back = [(-2, 1)], [(-1, 2)]
"""

POINT_6 = """
>>> from crosshitch.layouts import layout_of, rings_of, rows_of
>>> rows_of(4, [(-3, -2), (1, 2)])
[[1, -2, 3], [4]]
>>> rings_of(4, [(-3, -2), (1, 2)])
[]
>>> rings_of(2, [(-2, 1), (-1, 2)])
[[1, 2]]
>>> rows_of(2, [(-2, 1), (-1, 2)])
[]
>>> layout_of(4, [[1, -2, 3], [4]], [])
[(-3, -2), (1, 2)]
>>> layout_of(2, [], [[1, 2]])
[(-2, 1), (-1, 2)]
"""

POINT_16 = """
>>> from crosshitch.layouts import count_layouts, is_layout, layout_of, open_ends, partner_of, partners_of
>>> from crosshitch.layouts import rings_of, rows_of
>>> [is_layout(3, line), is_layout(3, [(1, -2)]), is_layout(3, [(-2, 1), (-3, 2)]), count_layouts(2), count_layouts(3)]
[True, False, False, 10, 76]
>>> [rows_of(4, bent), rings_of(3, ring), open_ends(4, bent), partner_of(3, bent, 2), partners_of(3, bent)]
[[[1, -2, 3], [4]], [[1, 2, 3]], [-4, -1, 3, 4], 1, [-2, -3, 0, 2, 1, 0]]
>>> layout_of(5, [[-3, 2, -1]], [[5, 4]])
[(-5, 4), (-4, 5), (-3, -2), (1, 2)]
"""

POINT_17 = """
>>> from crosshitch.moves import count_moves, is_move, kind_of, moved, moves_of
>>> [moved(3, line, ([(-3, 2), (-2, 1)], [(-3, -2), (1, 2)])) == bent, count_moves(3, line), moves_of(1, [])]
[True, 13, [([], [(-1, 1)])]]
>>> [kind_of(3, line, move) for move in [([], [(-1, 3)]), ([(-2, 1)], [(-1, 1)]), ([(-2, 1)], [(-2, -1)])]]
['close', 'let', 'turn']
>>> [is_move(3, line, ([(-3, 2)], [(-3, 2)])), is_move(3, line, ([(-3, 2)], [(-2, 1)]))]
[False, False]
"""


class Examples(unittest.TestCase):
    def check(self, text):
        test = doctest.DocTestParser().get_doctest(LAYOUTS + text, {}, "example", None, 0)
        told = []
        runner = doctest.DocTestRunner(verbose=False)
        runner.run(test, out=told.append)
        self.assertEqual(runner.failures, 0, "".join(told))
        self.assertEqual(runner.tries, LAYOUTS.count(">>>") + text.count(">>>"))

    def test_point_6(self):
        self.check(POINT_6)

    def test_point_16(self):
        self.check(POINT_16)

    def test_point_17(self):
        self.check(POINT_17)

    def test_readme(self):
        readme = pathlib.Path(__file__).parent.parent / "README.md"
        blocks = [block for block in readme.read_text(encoding="ascii").split("```") if ">>>" in block]
        self.assertTrue(blocks)
        for block in blocks:
            self.check(block)


if __name__ == "__main__":
    unittest.main()
