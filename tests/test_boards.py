"""Point 2, and of point 1 what holds for boards: the heading strokes/boards.py."""

import copy
import unittest

from strokes import boards
from strokes.boards import paint, painted
from strokes.errors import BadLine, BadPicture, BadStrokes

SMALL = ("#.", "..")

NO_PICTURES = [
    None, True, False, 0, 1, -1, "", "#", "#.", "#.\n..", [], ["#.", ".."], {}, {"#.": 0, "..": 1},
    # No rows or columns, and one too many.
    (), ("",), ("", ""), ("",) * 20, ("#",) * 21, ("." * 21,), ("#" * 21,) * 21, (".",) * 400,
    # Rows of unequal length, the odd one first, in the middle, last.
    ("#", ".."), ("##", "."), ("#.", "#..", ".."), ("...", "...", "..#."), ("#.", ""), ("", ".."),
    # Rows of another kind.
    (1, 2), (None,), (True,), (False, False), ("#.", 5), (5, "#."), ("#.", None), ("..", True),
    (("#", "."), (".", ".")), (["#", "."], [".", "."]), ("#.", ("#", ".")), ("#.", ["#", "."]),
    (("#.", ".."),), ({"#": 1},), ("#.", {}), (SMALL, SMALL),
    # Other signs.
    ("#x", ".."), ("# ", ".."), (" #", ".."), ("#.", ".-"), ("#.", ".o"), ("01",), ("#\n",),
    ("\n", "#"), ("\t",), (",",), ("\uff0e",), ("\uff03",), ("\u2588",), ("\x00",), ("#.", "?."),
]

NO_INTEGERS = [None, True, False, "", "0", "1", (), (0,), (0, 1), [], [0], {}, {0: 0}]

FAR_NUMBERS = [-1, -2, -4, 10 ** 30, -(10 ** 30)]


def some_picture(rows, columns):
    """A picture with both colors in it, if it has more cells than one."""
    signs = ["#" if (3 * row + 5 * column) % 7 < 3 else "." for row in range(rows) for column in range(columns)]
    return tuple("".join(signs[row * columns:(row + 1) * columns]) for row in range(rows))


def cell_after(picture, line, row, column):
    """The color of a cell behind a stroke, straight from the document."""
    if line == row:
        return "#"
    if line == len(picture) + column:
        return "."
    return picture[row][column]


def painted_by_cells(picture, line):
    columns = range(len(picture[0]))
    return tuple("".join(cell_after(picture, line, row, column) for column in columns) for row in range(len(picture)))


class TheInterface(unittest.TestCase):
    def test_the_functions_are_defined_in_the_file(self):
        for name in ("paint", "painted"):
            self.assertEqual(getattr(boards, name).__module__, "strokes.boards")

    def test_the_examples(self):
        self.assertEqual(
            [paint(("#.", ".."), 2), painted(("..", ".."), [0, 3])],
            [("..", ".."), ("#.", "..")],
        )
        with self.assertRaises(BadLine):
            paint(("#.", ".."), 4)

    def test_arguments_by_name(self):
        self.assertEqual(paint(picture=SMALL, line=1), ("#.", "##"))
        self.assertEqual(painted(picture=SMALL, strokes=[1]), ("#.", "##"))


class Paint(unittest.TestCase):
    def test_rows_come_first_and_are_black(self):
        picture = ("...", ".#.")
        self.assertEqual(paint(picture, 0), ("###", ".#."))
        self.assertEqual(paint(picture, 1), ("...", "###"))

    def test_columns_come_behind_and_are_white(self):
        picture = ("###", "#.#")
        self.assertEqual(paint(picture, 2), (".##", "..#"))
        self.assertEqual(paint(picture, 3), ("#.#", "#.#"))
        self.assertEqual(paint(picture, 4), ("##.", "#.."))

    def test_one_cell(self):
        for start in (("#",), (".",)):
            self.assertEqual(paint(start, 0), ("#",))
            self.assertEqual(paint(start, 1), (".",))

    def test_one_row(self):
        picture = ("#" * 20,)
        self.assertEqual(paint(("." * 20,), 0), picture)
        self.assertEqual(paint(picture, 1), ("." + "#" * 19,))
        self.assertEqual(paint(picture, 20), ("#" * 19 + ".",))

    def test_one_column(self):
        picture = (".",) * 20
        self.assertEqual(paint(picture, 0), ("#",) + (".",) * 19)
        self.assertEqual(paint(picture, 19), (".",) * 19 + ("#",))
        self.assertEqual(paint(("#",) * 20, 20), picture)

    def test_the_greatest_board(self):
        self.assertEqual(paint(("." * 20,) * 20, 19), ("." * 20,) * 19 + ("#" * 20,))
        self.assertEqual(paint(("#" * 20,) * 20, 20), ("." + "#" * 19,) * 20)
        self.assertEqual(paint(("#" * 20,) * 20, 39), ("#" * 19 + ".",) * 20)

    def test_each_line_of_many_boards(self):
        for rows in (1, 2, 3, 7, 19, 20):
            for columns in (1, 2, 4, 6, 19, 20):
                picture = some_picture(rows, columns)
                for line in range(rows + columns):
                    with self.subTest(rows=rows, columns=columns, line=line):
                        self.assertEqual(paint(picture, line), painted_by_cells(picture, line))

    def test_what_is_painted_already_stays(self):
        self.assertEqual(paint(("##", ".."), 0), ("##", ".."))
        self.assertEqual(paint((".#", ".#"), 2), (".#", ".#"))

    def test_the_answer_is_a_tuple_of_strings(self):
        for line in range(4):
            answer = paint(SMALL, line)
            self.assertIs(type(answer), tuple)
            self.assertEqual([type(row) for row in answer], [str, str])

    def test_equal_arguments_have_equal_answers(self):
        self.assertEqual(paint(("#.", ".."), 1), paint(tuple(["#.", ".."]), 1))
        self.assertEqual(SMALL, ("#.", ".."))

    def test_no_picture(self):
        for value in NO_PICTURES:
            with self.subTest(repr(value)), self.assertRaises(BadPicture):
                paint(value, 0)

    def test_no_line(self):
        for value in NO_INTEGERS + FAR_NUMBERS + [4, 5, 21]:
            with self.subTest(repr(value)), self.assertRaises(BadLine):
                paint(SMALL, value)

    def test_the_number_behind_the_last_line(self):
        for rows, columns in ((1, 1), (1, 20), (20, 1), (3, 5), (20, 20)):
            picture = some_picture(rows, columns)
            paint(picture, rows + columns - 1)
            with self.subTest(rows=rows, columns=columns), self.assertRaises(BadLine):
                paint(picture, rows + columns)

    def test_the_picture_is_asked_first(self):
        for value in NO_PICTURES:
            for line in (None, True, -1, 99, [0]):
                with self.subTest(repr(value), line=line), self.assertRaises(BadPicture):
                    paint(value, line)


class Painted(unittest.TestCase):
    def test_no_strokes(self):
        for picture in (("#",), SMALL, some_picture(20, 20)):
            self.assertEqual(painted(picture, []), picture)

    def test_the_later_stroke_lies_above(self):
        self.assertEqual(painted(("..", ".."), [0, 2]), (".#", ".."))
        self.assertEqual(painted(("..", ".."), [2, 0]), ("##", ".."))
        self.assertEqual(painted(("...", "..."), [0, 1, 3, 0]), ("###", "#.#"))

    def test_the_same_line_twice(self):
        self.assertEqual(painted(("..", ".."), [1, 1]), ("..", "##"))
        self.assertEqual(painted(("##", "##"), [3, 3]), ("#.", "#."))
        self.assertEqual(painted(("##", ".."), [0, 2, 0]), ("##", ".."))

    def test_one_row_and_one_column(self):
        self.assertEqual(painted(("...",), [0, 1, 3]), (".#.",))
        self.assertEqual(painted(("#", "#", "#"), [3, 0, 2]), ("#", ".", "#"))

    def test_all_lines_one_behind_another(self):
        picture = some_picture(20, 20)
        self.assertEqual(painted(picture, list(range(40))), ("." * 20,) * 20)
        self.assertEqual(painted(picture, list(reversed(range(40)))), ("#" * 20,) * 20)

    def test_it_is_paint_again_and_again(self):
        picture = some_picture(5, 4)
        strokes = [8, 0, 3, 5, 5, 1, 7, 4, 2, 0, 6, 8]
        expected = picture
        for line in strokes:
            expected = painted_by_cells(expected, line)
        self.assertEqual(painted(picture, strokes), expected)

    def test_many_strokes(self):
        self.assertEqual(painted(("..", ".."), [0, 2, 1, 3] * 5000), ("..", "#."))

    def test_no_picture(self):
        for value in NO_PICTURES:
            with self.subTest(repr(value)), self.assertRaises(BadPicture):
                painted(value, [])

    def test_no_list(self):
        for value in (None, True, False, 0, 1, "", "01", (), (0,), (0, 1), {}, {0: 1}):
            with self.subTest(repr(value)), self.assertRaises(BadStrokes):
                painted(SMALL, value)

    def test_a_list_with_what_is_no_line(self):
        for value in NO_INTEGERS + FAR_NUMBERS + [4, 5, 21]:
            for strokes in ([value], [value, 0], [0, value, 1], [0, 3, value]):
                with self.subTest(repr(strokes)), self.assertRaises(BadStrokes):
                    painted(SMALL, strokes)

    def test_the_picture_is_asked_first(self):
        for value in NO_PICTURES:
            for strokes in (None, (), [True], [-1], [99]):
                with self.subTest(repr(value), strokes=strokes), self.assertRaises(BadPicture):
                    painted(value, strokes)


class Arguments(unittest.TestCase):
    def test_a_list_of_strokes_is_not_modified(self):
        for strokes in ([], [0, 3, 0], [2, 1]):
            before = list(strokes)
            painted(SMALL, strokes)
            self.assertEqual(strokes, before)

    def test_wrong_arguments_are_not_modified(self):
        for value in ([0, True], [[0], 9], {0: [1]}, [0, -1]):
            before = copy.deepcopy(value)
            for call in (lambda: painted(SMALL, value), lambda: paint(SMALL, value)):
                self.assertRaises((BadStrokes, BadLine), call)
            self.assertEqual(repr(value), repr(before))
        for value in (["#.", ".."], {"#.": [0]}, (["#"], ["."])):
            before = copy.deepcopy(value)
            for call in (lambda: painted(value, []), lambda: paint(value, 0)):
                self.assertRaises(BadPicture, call)
            self.assertEqual(value, before)


if __name__ == "__main__":
    unittest.main()
