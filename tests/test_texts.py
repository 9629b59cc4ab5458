"""Points [6], [7] and [24], but for wrong parameters ahead of the texts."""

import random
import re
import unittest

from crosshitch.errors import InvalidText
from crosshitch.layouts import layout_of, rings_of, rows_of
from crosshitch.moves import is_move, moves_of
from crosshitch.overlay import shortest
from crosshitch.texts import read_layout, read_move, show_layout, show_move
from tests.helpers import ErrorChecks, all_couplings, all_layouts, snapshot, values_of_any_kind
from tests.laying import BENT, LINE, LONG_RING, LONG_ROW, LOOPS, RING, some_layout


def text_by_readings(pieces, layout):
    rows = [" ".join(map(str, row)) for row in rows_of(pieces, layout)]
    return ", ".join(rows + ["(" + " ".join(map(str, ring)) + ")" for ring in rings_of(pieces, layout)])


def text_in_any_way(pieces, layout, rnd):
    """A text of a layout with other readings, in another sequence, without some rows of one piece."""
    parts = []
    for row in rows_of(pieces, layout):
        if len(row) > 1 or rnd.random() < 0.5:
            parts.append(turned(row, rnd))
    for ring in rings_of(pieces, layout):
        begin = rnd.randrange(len(ring))
        parts.append(turned(ring[begin:] + ring[:begin], rnd))
        parts[-1] = f"({parts[-1]})"
    rnd.shuffle(parts)
    return ", ".join(parts)


def turned(reading, rnd):
    if rnd.random() < 0.5:
        reading = [-number for number in reversed(reading)]
    return " ".join(map(str, reading))


NUMBER = r"-?[1-9][0-9]*"


def layout_by_pattern(pieces, text):
    """The layout with a text, or the number of the first wrong part."""
    rows, rings, seen = [], [], set()
    for part, told in enumerate(text.split(", ") if text else []):
        numbers = re.findall(NUMBER, told)
        found = [abs(int(number)) for number in numbers]
        row = re.fullmatch(f"{NUMBER}( {NUMBER})*", told)
        ring = re.fullmatch(rf"\({NUMBER}( {NUMBER})*\)", told)
        if not (row or ring) or len(set(found)) < len(found) or set(found) & seen or max(found) > pieces:
            return part
        seen |= set(found)
        (rows if row else rings).append([int(number) for number in numbers])
    return layout_of(pieces, rows, rings)


def move_by_pattern(pieces, layout, text):
    """The move with a text, or the number that an error has."""
    words = text.split(" ")
    couplings = {f"{low}/{high}": (low, high) for low, high in all_couplings(pieces)}

    def can_stand(place):
        """Whether the words up to a place can be those of the beginning of a text."""
        told = ["c" if word == "cut" else "j" if word == "join" else "p" if word in couplings else "?"
                for word in words[:place + 1]]
        if not re.fullmatch("c|cp|cpp|(c(p|pp))?j(p|pp)?", "".join(told)):
            return False
        return told[-2:] != ["p", "p"] or couplings[words[place - 1]] < couplings[words[place]]

    for place in range(len(words)):
        if not can_stand(place):
            return place
    parts = re.fullmatch("(?:cut ?([^cj]*?))?(?: ?join ?(.*))?", text).groups()
    move = tuple([couplings[word] for word in (part or "").split()] for part in parts)
    missing = words[-1] in ("cut", "join")
    return len(words) if missing or not is_move(pieces, layout, move) else move


class Layouts(ErrorChecks, unittest.TestCase):
    def test_all_layouts_of_few_pieces(self):
        rnd = random.Random(61)
        for pieces in (1, 2, 3, 4):
            for layout in all_layouts(pieces):
                text = show_layout(pieces, layout)
                self.assertEqual(text, text_by_readings(pieces, layout))
                self.assertEqual(read_layout(pieces, text), layout)
                for _ in range(4):
                    self.assertEqual(read_layout(pieces, text_in_any_way(pieces, layout, rnd)), layout)

    def test_texts(self):
        for pieces, layout, text in [
            (1, [], "1"), (1, [(-1, 1)], "(1)"), (2, [], "1, 2"), (3, LINE, "1 2 3"), (3, RING, "(1 2 3)"),
            (3, BENT, "1 -2 3"), (3, [(-2, 2)], "1, 3, (2)"), (3, [(-1, 1), (2, 3)], "2 -3, (1)"),
            (3, [(-3, 3), (-2, 2), (-1, 1)], "(1), (2), (3)"), (2, [(-2, -1), (1, 2)], "(1 -2)"),
            (4, [(-4, 1), (-3, -1)], "-3 1 4, 2"), (4, [(-4, 1), (-1, 3)], "2, 3 1 4"), (3, [(-3, -1)], "-3 1, 2"),
            (4, [(-4, 3), (-1, 2)], "2 1, 3 4"), (12, [(2, 10)], "1, 2 -10, 3, 4, 5, 6, 7, 8, 9, 11, 12"),
        ]:
            self.assertEqual(show_layout(pieces, layout), text)
            self.assertEqual(read_layout(pieces, text), layout)

    def test_sixty_pieces(self):
        rnd = random.Random(62)
        for layout in [[], LOOPS, LONG_ROW, LONG_RING, *[some_layout(60, many, rnd) for many in (10, 30, 50, 59, 60)]]:
            text = show_layout(60, layout)
            self.assertEqual(text, text_by_readings(60, layout))
            self.assertEqual(read_layout(60, text), layout)
            for _ in range(5):
                self.assertEqual(read_layout(60, text_in_any_way(60, layout, rnd)), layout)
        self.assertEqual(show_layout(60, LONG_RING), "(" + " ".join(map(str, range(1, 61))) + ")")
        self.assertEqual(read_layout(60, ""), [])

    def test_the_empty_text(self):
        for pieces in (1, 2, 60):
            self.assertEqual(read_layout(pieces, ""), [])
            read_layout(pieces, "").append("more")
            self.assertEqual(read_layout(pieces, ""), [])

    def test_rows_of_one_piece_left_out(self):
        for text, layout in [("2 3", [(-3, 2)]), ("(2)", [(-2, 2)]), ("3", []), ("-3", []), ("-2, -1", []),
                             ("(4), 1 -3", [(-4, 4), (1, 3)]), ("(-4), 3 -1", [(-4, 4), (1, 3)]),
                             ("-3 -2 -1", LINE), ("(-2 -1 -3)", RING), ("(3 1 2)", RING)]:
            self.assertEqual(read_layout(4, text), layout)

    def test_wrong_parts(self):
        for text, part in [
            (" ", 0), (",", 0), (", ", 0), ("1, ", 1), (", 1", 0), ("1,2", 0), ("1 ,2", 0), ("1,  2", 1), ("1  2", 0),
            (" 1", 0), ("1 ", 0), ("1, 2 ", 1), ("1\n", 0), ("1\n2", 0), ("1, 2\n", 1), ("1,\n2", 0), ("(", 0),
            (")", 0), ("()", 0), ("( 1)", 0), ("(1 )", 0), ("(1", 0), ("1)", 0), ("((1))", 0), ("(1)(2)", 0),
            ("1 (2)", 0), ("0", 0), ("-0", 0), ("+1", 0), ("--1", 0), ("- 1", 0), ("01", 0), ("1, -02", 1),
            ("1.0", 0), ("1_0", 0),
            ("one", 0), ("1/2", 0), ("4", 0), ("-4", 0), ("1 2 4", 0), ("1, 2, 4", 2), ("1 1", 0), ("1 -1", 0),
            ("(2 2)", 0), ("1, 1", 1), ("1, -1", 1), ("1 2, (3), -2", 2), ("(1), (1)", 1), ("1 2 3, x", 1),
            ("1, 1, 4", 1), ("4, 1, 1", 0), ("3, (1 2), 3", 2), ("1, 2, 3, 3", 3), ("1" * 4000, 0), ("1 " * 2000, 0),
            ("1, " * 1333, 1), ("9" * 30, 0), ("(-1 -2 -3), -", 1), ("1;2", 0), ("[1]", 0),
        ]:
            caught = self.raised(InvalidText, read_layout, 3, text)
            self.assertEqual(caught.part, part, text)
            self.assertIs(type(caught.part), int)
        self.assertEqual(self.raised(InvalidText, read_layout, 60, "60, 61").part, 1)
        self.assertEqual(self.raised(InvalidText, read_layout, 1, "2").part, 0)

    def test_texts_by_chance(self):
        rnd = random.Random(63)
        signs = ["1", "2", "3", "-", " ", ", ", "(", ")", "4", "0", "1 2", "(3)", "-2", ",", "1 -3", "12", "\n"]
        right = 0
        for _ in range(20000):
            text = "".join(rnd.choice(signs[:rnd.choice([8, 17])]) for _ in range(rnd.randint(1, 6)))
            expected = layout_by_pattern(3, text)
            if isinstance(expected, int):
                self.assertEqual(self.raised(InvalidText, read_layout, 3, text).part, expected, text)
            else:
                right += 1
                self.assertEqual(read_layout(3, text), expected, text)
        self.assertGreater(right, 500)

    def test_no_string(self):
        for value in values_of_any_kind():
            if not isinstance(value, str):
                self.assertIsNone(self.raised(InvalidText, read_layout, 3, value).part)
                self.assertIsNone(self.raised(InvalidText, read_move, 3, LINE, value).part)


class Moves(ErrorChecks, unittest.TestCase):
    def test_all_moves_of_few_pieces(self):
        for pieces in (1, 2, 3):
            for layout in all_layouts(pieces):
                for move in moves_of(pieces, layout):
                    cut, joined = [" ".join(f"{low}/{high}" for low, high in part) for part in move]
                    text = " ".join(([f"cut {cut}"] if cut else []) + ([f"join {joined}"] if joined else []))
                    self.assertEqual(show_move(pieces, layout, move), text)
                    self.assertEqual(read_move(pieces, layout, text), move)

    def test_sixty_pieces(self):
        for one, other in [(LONG_RING, LOOPS), (LONG_ROW, []), ([], LONG_RING), (LOOPS, LONG_ROW)]:
            move = shortest(60, one, other)[0]
            self.assertEqual(read_move(60, one, show_move(60, one, move)), move)
        self.assertEqual(show_move(60, LONG_ROW, ([(-60, 59)], [(-60, -1)])), "cut -60/59 join -60/-1")

    def test_wrong_words(self):
        for text, part in [
            ("", 0), (" ", 0), ("cut", 1), ("join", 1), ("cut ", 1), ("join ", 1), ("cut join", 1), ("cut cut", 1),
            ("join cut", 1), ("join join", 1), ("-2/1", 0), ("x", 0), ("Cut -2/1", 0), (" cut -2/1", 0),
            ("cut -2/1 ", 2), ("cut  -2/1", 1), ("cut -2/1 join", 3), ("cut -2/1 join ", 3), ("cut -2/1 cut -3/2", 2),
            ("cut -2/1 -3/2", 2), ("cut -3/2 -2/1", 3), ("cut -3/2 -3/2", 2), ("cut -3/2 -2/1 -1/3", 3),
            ("cut -3/2 -2/1 join", 4), ("cut -3/2 -2/1 join -3/-2", 5), ("cut -3/2 -2/1 join 1/2 -3/-2", 5),
            ("cut -3/2 -2/1 join -3/-2 1/2 -1/3", 6), ("cut -3/2 -2/1 join -3/-2 1/2 join", 6),
            ("cut -3/2 -2/1 join -3/-2 1/2 ", 6), ("join -1/3 cut -2/1", 2), ("join -1/3 join", 2),
            ("join 3/-1", 1), ("join -1/-1", 1), ("join -1/4", 1), ("join 0/3", 1), ("join -1/03", 1),
            ("join -01/3", 1),
            ("join +1/3", 1), ("join -1/3/", 1), ("join -1//3", 1), ("join /", 1), ("join -1", 1), ("join (-1,3)", 1),
            ("join -1/3\n", 1), ("join\n-1/3", 0), ("join -1 / 3", 1), ("join -1/3 x", 2), ("join -1/3 -1/3", 2),
            ("join -1/2", 2), ("cut -1/3", 2), ("cut -2/1 join -2/1", 4), ("cut -2/1 join -3/-1", 4),
            ("join -1/3 1/2", 3), ("cut -3/2 -2/1 join -3/2 -2/1", 6), ("cut -3/2 join -2/1", 4), ("0", 0),
            ("cut " + "-2/1 " * 700, 2), ("c" * 4000, 0),
        ]:
            caught = self.raised(InvalidText, read_move, 3, LINE, text)
            self.assertEqual(caught.part, part, text)
            self.assertIs(type(caught.part), int)
            self.assertEqual(move_by_pattern(3, LINE, text), part, text)

    def test_texts_by_chance(self):
        rnd = random.Random(64)
        moves = [show_move(3, LINE, move) for move in moves_of(3, LINE)]
        more = ["cut", "join", "-3/2", "-2/1", "-1/3", "-3/-2", "1/2", "-2/-1", "-1/1", "2/1", "", "x"]
        right = 0
        for _ in range(20000):
            words = rnd.choice(moves).split(" ")
            for _ in range(rnd.choice([0, 1, 1, 2, 3])):
                at = rnd.randrange(len(words) + 1)
                words[at:at + rnd.randint(0, 1)] = rnd.sample(more, rnd.choice([0, 1, 1]))
            text = " ".join(words)
            expected = move_by_pattern(3, LINE, text)
            if isinstance(expected, int):
                self.assertEqual(self.raised(InvalidText, read_move, 3, LINE, text).part, expected, text)
            else:
                right += 1
                self.assertEqual(read_move(3, LINE, text), expected, text)
        self.assertGreater(right, 500)

    def test_new_lists_and_arguments(self):
        layout, move = snapshot(LINE), ([(-2, 1)], [(-1, 1)])
        found = read_move(3, layout, "cut -2/1 join -1/1")
        self.assertEqual(found, move)
        self.assertEqual([type(found), *map(type, found), type(found[0][0])], [tuple, list, list, tuple])
        found[0].append("more")
        self.assertEqual(read_move(3, layout, "cut -2/1 join -1/1"), move)
        self.assertEqual(show_move(3, layout, move), "cut -2/1 join -1/1")
        self.assertEqual([layout, move], [LINE, ([(-2, 1)], [(-1, 1)])])
        found = read_layout(3, "1 2 3")
        found.append("more")
        self.assertEqual(read_layout(3, "1 2 3"), LINE)
        self.assertEqual(read_move(3, [], "join -1/1"), ([], [(-1, 1)]))


if __name__ == "__main__":
    unittest.main()
