"""Point 8, and of point 1 what holds for the arguments of a run: the heading strokes/runs.py."""

import unittest

import strokes.runs
from strokes.errors import (
    BadNumber, BadPicture, InvalidText, MayBeUnset, NotText, UnknownName, WrongCount,
)
from strokes.runs import run, ticks_of
from tests.machine import executed
from tests.programs import OTHERS, made_programs

FUNCTIONS = (run, ticks_of)
SMALL = ("#.", "..", ".#")
MOST = 10 ** 9
# 10 ** 9 is too great to be written.
LET_MOST = "let m = 1000 * 1000 * 1000 "


class RunsTest(unittest.TestCase):
    def assert_run(self, text, picture, lines, said, end, used, start=SMALL, ticks=1000):
        with self.subTest(text, ticks=ticks):
            answer = run(text, start, ticks)
            self.assertEqual(answer, (picture, tuple(lines), tuple(said), end))
            self.assertEqual([type(value) for value in answer], [tuple, tuple, tuple, str])
            for number in answer[1] + answer[2]:
                self.assertIs(type(number), int)
            self.assertEqual(ticks_of(text, start, ticks), used)
            self.assertIs(type(ticks_of(text, start, ticks)), int)
            # A program and its code have the same run.
            self.assertEqual(executed(text, start, ticks), (answer, used))

    def assert_says(self, text, *numbers, end="done", used=None):
        answer = run(text, SMALL, 20000)
        with self.subTest(text):
            self.assertEqual(answer, (SMALL, (), numbers, end))
            for number in answer[2]:
                self.assertIs(type(number), int)
            ticks = ticks_of(text, SMALL, 20000)
            if used is not None:
                self.assertEqual(ticks, used)
            self.assertEqual(executed(text, SMALL, 20000), (answer, ticks))

    def assert_value(self, expression, number):
        self.assert_says("say " + expression, number, used=1)

    def assert_end(self, text, end, *numbers, used=None):
        self.assert_says(text, *numbers, end=end, used=used)


class TheInterface(RunsTest):
    def test_the_functions_are_defined_in_the_file(self):
        for function in FUNCTIONS:
            self.assertEqual(function.__module__, "strokes.runs")
            self.assertIs(getattr(strokes.runs, function.__name__), function)

    def test_the_examples(self):
        self.assertEqual(run("for i = 1 to rows { row i } say cols", ("..", ".."), 100),
                         (("##", "##"), (0, 1), (2,), "done"))
        self.assertEqual(run("while 1 { col 1 }", ("#",), 3), ((".",), (1,), (), "limit"))
        self.assertEqual(run("say 7 / 2 say -7 mod 3 row 3", ("#",), 9), (("#",), (), (3, 2), "range"))
        self.assertEqual(ticks_of("let x = 3 while x { let x = x - 1 }", ("#",), 50), 8)

    def test_the_arguments_by_name(self):
        self.assertEqual(run(text="row 1", picture=(".",), ticks=1), (("#",), (0,), (), "done"))
        self.assertEqual(ticks_of(text="row 1", picture=(".",), ticks=1), 1)

    def test_the_empty_text(self):
        for ticks in (0, 1, 20000):
            self.assert_run("", SMALL, (), (), "done", 0, ticks=ticks)


class Errors(RunsTest):
    def assert_error(self, error, text, picture, ticks, **fields):
        for function in FUNCTIONS:
            with self.subTest(function=function.__name__, text=repr(text)[:40], picture=picture, ticks=ticks):
                with self.assertRaises(error) as caught:
                    function(text, picture, ticks)
                self.assertIs(type(caught.exception), error)
                self.assertEqual(vars(caught.exception), fields)

    def test_texts(self):
        for value in OTHERS:
            self.assert_error(NotText, value, SMALL, 9)
        self.assert_error(InvalidText, "row 1 2", SMALL, 9, place=7)
        self.assert_error(InvalidText, "row 1" + " " * 99996, SMALL, 9, place=100001)
        self.assert_error(UnknownName, "say x do f()", SMALL, 9, name="f")
        self.assert_error(WrongCount, "def f() { } do f(1)", SMALL, 9, name="f")
        self.assert_error(MayBeUnset, "say x", SMALL, 9, name="x")
        self.assert_error(MayBeUnset, "def f() { say x }", SMALL, 9, name="x")

    def test_pictures(self):
        for value in (None, 0, True, "#", "#.", ["#"], ("#", "#."), ("",), (), ("x",), ("#\n",), (("#",),), {}, (1,),
                      ("#" * 21,), ("#",) * 21, ("#", None), [], {"#": 1}):
            self.assert_error(BadPicture, "stop", value, 9)

    def test_ticks(self):
        for value in (-1, 20001, True, False, None, "1", (), (1,), [], [1], {}, 10 ** 30, -10 ** 30):
            self.assert_error(BadNumber, "stop", SMALL, value)

    def test_the_greatest_and_the_least_number_of_ticks(self):
        self.assert_run("stop", SMALL, (), (), "limit", 0, ticks=0)
        self.assert_run("stop", SMALL, (), (), "stopped", 1, ticks=20000)

    def test_the_error_of_the_leftmost_argument_comes_first(self):
        self.assert_error(NotText, None, None, None)
        self.assert_error(InvalidText, "row", ["#"], -1, place=4)
        self.assert_error(UnknownName, "do f()", (), -1, name="f")
        self.assert_error(WrongCount, "def f() { } do f(1)", (), -1, name="f")
        self.assert_error(MayBeUnset, "say x", (), True, name="x")
        self.assert_error(BadPicture, "stop", (), -1)
        self.assert_error(BadNumber, "row 9", SMALL, -1)

    def test_arguments_are_not_modified(self):
        picture = ["#.", ".."]
        start = tuple(picture)
        run("row 2 col 1", start, 9)
        self.assertEqual(start, tuple(picture))


class Painting(RunsTest):
    def test_rows(self):
        self.assert_run("row 1", ("##", "..", ".#"), [0], [], "done", 1)
        self.assert_run("row 2", ("#.", "##", ".#"), [1], [], "done", 1)
        self.assert_run("row 3", ("#.", "..", "##"), [2], [], "done", 1)
        self.assert_run("row rows", ("#.", "..", "##"), [2], [], "done", 1)

    def test_columns(self):
        self.assert_run("col 1", ("..", "..", ".#"), [3], [], "done", 1)
        self.assert_run("col 2", ("#.", "..", ".."), [4], [], "done", 1)
        self.assert_run("col 1 + 1", ("#.", "..", ".."), [4], [], "done", 1)

    def test_over_what_is_there(self):
        self.assert_run("row 1 col 1 row 1", ("##", "..", ".#"), [0, 3, 0], [], "done", 3)
        self.assert_run("row 2 row 2 col 2", ("#.", "#.", ".."), [1, 1, 4], [], "done", 3)

    def test_lines_that_the_board_does_not_have(self):
        for text in ("row 0", "row 4", "row -1", "col 0", "col 3", "col -1", "row 999999", "col -999999"):
            self.assert_run(text, SMALL, [], [], "range", 1)
            self.assert_run("row 1 say 5 " + text + " say 6", ("##", "..", ".#"), [0], [5], "range", 3)

    def test_the_greatest_board(self):
        white = ("." * 20,) * 20
        self.assert_run("row 20 col 20", ("." * 20,) * 19 + ("#" * 19 + ".",), [19, 39], [], "done", 2, start=white)
        self.assert_run("row 21", white, [], [], "range", 1, start=white)
        self.assert_run("col 21", white, [], [], "range", 1, start=white)


class Expressions(RunsTest):
    def test_parts(self):
        self.assert_value("0", 0)
        self.assert_value("999999", 999999)
        self.assert_value("rows", 3)
        self.assert_value("cols", 2)
        self.assert_value("-5", -5)
        self.assert_value("--5", 5)
        self.assert_value("-0", 0)
        self.assert_says("let x = 4 say x", 4)

    def test_sums_differences_and_products(self):
        for first in (-7, -1, 0, 2, 999):
            for second in (-3, 0, 1, 7):
                self.assert_value(f"({first}) + ({second})", first + second)
                self.assert_value(f"({first}) - ({second})", first - second)
                self.assert_value(f"({first}) * ({second})", first * second)
        self.assert_value("1 - 2 - 3", -4)
        self.assert_value("2 + 3 * 4", 14)

    def test_what_rounds_down(self):
        for text, number in (("7 / 2", 3), ("-7 / 2", -4), ("7 / -2", -4), ("-7 / -2", 3), ("6 / 3", 2),
                             ("-6 / 3", -2), ("1 / 9", 0), ("-1 / 9", -1), ("0 / 5", 0), ("0 / -5", 0),
                             ("20 / 3 / 2", 3), ("-(7 / 2)", -3)):
            self.assert_value(text, number)

    def test_what_is_left_has_the_sign_of_the_second_number(self):
        for text, number in (("7 mod 3", 1), ("-7 mod 3", 2), ("7 mod -3", -2), ("-7 mod -3", -1), ("6 mod 3", 0),
                             ("-6 mod 3", 0), ("6 mod -3", 0), ("0 mod 5", 0), ("2 mod 5", 2), ("-2 mod 5", 3),
                             ("2 mod -5", -3), ("-(7 mod 3)", -1)):
            self.assert_value(text, number)

    def test_comparisons(self):
        for first in (-2, 0, 1, 2):
            for second in (-2, 0, 1, 2):
                self.assert_value(f"({first}) < ({second})", int(first < second))
                self.assert_value(f"({first}) <= ({second})", int(first <= second))
                self.assert_value(f"({first}) = ({second})", int(first == second))
                self.assert_value(f"({first}) != ({second})", int(first != second))

    def test_not(self):
        for text, number in (("not 0", 1), ("not 1", 0), ("not 7", 0), ("not -7", 0), ("not not 7", 1),
                             ("not not 0", 0), ("not 1 < 2", 0), ("not 2 < 1", 1)):
            self.assert_value(text, number)

    def test_and_and_or(self):
        for first in (-3, 0, 1, 5):
            for second in (-3, 0, 1, 5):
                self.assert_value(f"({first}) and ({second})", int(bool(first and second)))
                self.assert_value(f"({first}) or ({second})", int(bool(first or second)))
        for text, number in (("1 and 2 and 3", 1), ("1 and 0 and 3", 0), ("0 or 0 or 3", 1), ("0 or 0 or 0", 0),
                             ("0 and 1 or 1", 1), ("1 or 1 and 0", 1), ("(1 or 1) and 0", 0), ("2 and 3 + 1", 1)):
            self.assert_value(text, number)

    def test_what_and_and_or_do_not_look_at(self):
        for wrong in ("1 / 0", "1 mod 0", "black(9, 9)", "1000 * 1000 * 1000 * 2", "(1 + 1 / 0)"):
            self.assert_value("0 and " + wrong, 0)
            self.assert_value("1 or " + wrong, 1)
            self.assert_value("-4 or " + wrong, 1)
            self.assert_value("0 and " + wrong + " and " + wrong, 0)
            self.assert_value("5 or " + wrong + " or " + wrong, 1)
            self.assert_value("0 and " + wrong + " or 1", 1)
            self.assert_value("(1 or " + wrong + ") and 2", 1)

    def test_what_and_and_or_do_look_at(self):
        self.assert_end("say 1 and 1 / 0", "divide")
        self.assert_end("say -1 and black(9, 9)", "range")
        self.assert_end("say 0 or 1 / 0", "divide")
        self.assert_end("say 0 and 1 / 0 or 1 / 0", "divide")
        self.assert_end("say 1 / 0 and 0", "divide")
        self.assert_end("say 1 / 0 or 1", "divide")

    def test_black(self):
        for row in (1, 2, 3):
            for column in (1, 2):
                self.assert_value(f"black({row}, {column})", int(SMALL[row - 1][column - 1] == "#"))
        self.assert_run("row 2 say black(2, 1) col 1 say black(2, 1) say black(2, 2)", ("..", ".#", ".#"), [1, 3],
                        [1, 0, 1], "done", 5)

    def test_cells_that_the_board_does_not_have(self):
        for text in ("0, 1", "4, 1", "1, 0", "1, 3", "-1, 1", "1, -1", "0, 0", "9, 9", "3, 3", "2, 999999"):
            self.assert_end("say black(" + text + ")", "range", used=1)

    def test_both_expressions_of_black_are_worked_out_first(self):
        self.assert_end("say black(9, 1 / 0)", "divide")
        self.assert_end("say black(0, 1000 * 1000 * 1000 + 1)", "number")
        self.assert_end("say black(1 / 0, 9)", "divide")

    def test_the_first_expression_is_worked_out_first(self):
        for mark in ("<", "<=", "=", "!=", "+", "-", "*", "/", "mod"):
            self.assert_end(f"say 1 / 0 {mark} black(0, 0)", "divide")
            self.assert_end(f"say black(0, 0) {mark} (1 / 0)", "range")
        self.assert_end("say black(1 / 0, black(0, 0))", "divide")
        self.assert_end("say black(black(0, 0), 1 / 0)", "range")

    def test_deep_and_long_expressions(self):
        self.assert_value("(" * 30 + "7" + ")" * 30, 7)
        self.assert_value("-" * 30 + "7", 7)
        self.assert_value("not " * 30 + "7", 1)
        self.assert_value("2 - (" * 30 + "7" + ")" * 30, 7)
        self.assert_run("say " + "black(" * 30 + "1" + ", 1)" * 30, ("#",), [], [1], "done", 1, start=("#",))
        self.assert_value("1 or 2 and 1 < 1 + 1 * (" * 30 + "7" + ")" * 30, 1)
        self.assert_value("1" + "+1" * 40000, 40001)
        self.assert_value("0" + "-1" * 40000, -40000)
        self.assert_value("0" + " or 0" * 16000 + " or 7", 1)
        self.assert_value("1" + " and 2" * 14000 + " and 0", 0)


class Numbers(RunsTest):
    def test_the_greatest_numbers(self):
        self.assert_says(LET_MOST + "say m say -m say m + 0 say -m - 0 say m * 1 say m * -1",
                         MOST, -MOST, MOST, -MOST, MOST, -MOST)
        self.assert_says(LET_MOST + "say m - 1 + 1 say -m + 1 - 1 say m - m say m / -1 say -m / 1 say -m mod 7",
                         MOST, -MOST, 0, -MOST, -MOST, -MOST % 7)
        self.assert_says(LET_MOST + "say 999999 * 1000 + 1000", MOST)

    def test_numbers_that_are_too_great(self):
        for text in ("m + 1", "1 + m", "-m - 1", "-m + -1", "m - -1", "m * 2", "m * -2", "-m * 2", "m + m", "-m - m",
                     "m * m", "m * m * 0", "m + 1 - 1", "31623 * 31623", "-31623 * 31623", "m * m / m", "-(m + 1)",
                     "0 * (m + 1)", "m + 1 < 0"):
            self.assert_end(LET_MOST + "say 1 say " + text, "number", 1, used=3)
        self.assert_value("31622 * 31622", 31622 * 31622)

    def test_dividing_by_0(self):
        for text in ("1 / 0", "0 / 0", "-1 / 0", "1 mod 0", "0 mod 0", "1 / (1 - 1)", "1 mod -0", "0 * (1 / 0)"):
            self.assert_end("say 1 say " + text, "divide", 1, used=2)

    def test_each_place_of_an_expression(self):
        for wrong, end in (("1 / 0", "divide"), ("1000 * 1000 * 1001", "number"), ("black(0, 1)", "range")):
            for text in ("row #", "col #", "say #", "let x = #", "if # { say 2 }", "while # { say 2 }",
                         "for i = # to 1 { say 2 }", "for i = 1 to # { say 2 }", "say -(#)", "say not #",
                         "say black(#, 1)", "say black(1, #)", "say 1 + (#)", "say (#) * 1"):
                self.assert_end("say 1 " + text.replace("#", wrong) + " say 3", end, 1, used=2)
            self.assert_end("def f(a, b) { say 9 } do f(1, " + wrong + ")", end, used=1)


class Names(RunsTest):
    def test_let(self):
        self.assert_says("let x = 1 let y = x + 1 let x = x * 10 say x say y", 10, 2, used=5)

    def test_if(self):
        for test, yes in (("1", True), ("0", False), ("-1", True), ("2 < 1", False), ("rows = 3", True)):
            self.assert_says(f"if {test} {{ say 1 }} say 3", *([1] if yes else []), 3, used=3 if yes else 2)
            self.assert_says(f"if {test} {{ say 1 }} else {{ say 2 }} say 3", 1 if yes else 2, 3, used=3)
        self.assert_says("if 1 { } say 3", 3, used=2)
        self.assert_says("if 0 { } else { } say 3", 3, used=2)

    def test_calls_set_and_see_nothing_of_the_caller(self):
        self.assert_says("def f(x) { let x = x + 1 let y = 9 say x } let x = 1 let y = 2 do f(y) say x say y", 3, 1, 2)
        self.assert_says("def f(x) { if x { do f(x - 1) } say x } do f(3)", 0, 1, 2, 3)


class Whiles(RunsTest):
    def test_turns(self):
        self.assert_says("while 0 { say 1 }", used=1)
        self.assert_says("let x = 2 while x { say x let x = x - 1 } say 7", 2, 1, 7, used=9)
        self.assert_says("let x = -2 while x { say x let x = x + 1 }", -2, -1, used=8)
        self.assert_says("let x = 1 while x { let x = 0 }", used=4)

    def test_within_one_another(self):
        self.assert_says("let x = 2 while x { let y = x while y { say x * 10 + y let y = y - 1 } let x = x - 1 }",
                         22, 21, 11, used=19)

    def test_the_tick_of_a_turn_is_used_ahead_of_the_next_test(self):
        text = "let x = 1 while 2 / x { let x = 0 }"
        self.assert_end(text, "divide", used=4)
        self.assert_run(text, SMALL, [], [], "limit", 3, ticks=3)
        self.assert_run(text, SMALL, [], [], "divide", 4, ticks=4)

    def test_an_empty_block(self):
        self.assert_run("while 1 { }", SMALL, [], [], "limit", 7, ticks=7)


class Fors(RunsTest):
    def test_turns(self):
        self.assert_says("for i = 1 to 3 { say i } say 9", 1, 2, 3, 9, used=8)
        self.assert_says("for i = 2 to 2 { say i }", 2, used=3)
        self.assert_says("for i = -1 to 1 { say i }", -1, 0, 1, used=7)
        self.assert_says("for i = 1 to 3 { }", used=4)

    def test_no_turn(self):
        self.assert_says("for i = 2 to 1 { say i } say 9", 9, used=2)
        self.assert_says("for i = 0 to -5 { say i }", used=1)
        self.assert_says("let i = 7 for i = 2 to 1 { } say i", 7, used=3)

    def test_both_expressions_are_worked_out_once(self):
        self.assert_says("let a = 1 let b = 3 for i = a to b { say i let a = 9 let b = 9 }", 1, 2, 3)
        self.assert_says("let i = 2 for i = i to i + 1 { say i }", 2, 3)
        self.assert_run("for i = 1 to 1 + black(1, 1) { say i col 1 }", ("..", "..", ".#"), [3, 3], [1, 2], "done", 7)

    def test_the_first_expression_is_worked_out_first(self):
        self.assert_end("for i = 1 / 0 to black(0, 0) { }", "divide", used=1)
        self.assert_end("for i = black(0, 0) to 1 / 0 { }", "range", used=1)

    def test_the_name_is_set_anew_at_each_turn(self):
        self.assert_says("for i = 1 to 3 { say i let i = i * 10 say i }", 1, 10, 2, 20, 3, 30)
        self.assert_says("for i = 1 to 2 { let i = 5 }", used=5)
        self.assert_says("for i = 1 to 2 { let i = -5 }", used=5)

    def test_the_name_behind_the_last_turn(self):
        self.assert_says("let i = 7 for i = 1 to 3 { } say i", 3)
        self.assert_says("let i = 7 for i = 1 to 3 { let i = i * 10 } say i", 30)

    def test_a_block_that_sets_the_name_of_another_for(self):
        self.assert_says("for i = 1 to 2 { for j = 1 to 2 { let i = 8 say i * 10 + j } say i }", 81, 82, 8, 81, 82, 8)
        self.assert_says("for i = 1 to 2 { for i = 5 to 6 { say i } say i }", 5, 6, 6, 5, 6, 6)

    def test_within_one_another(self):
        self.assert_says("for i = 1 to 3 { for j = i to 2 { say i * 10 + j } }", 11, 12, 22, used=13)

    def test_a_next_value_that_is_too_great(self):
        self.assert_end(LET_MOST + "for i = m to m { say i } say 1", "number", MOST, used=3)
        self.assert_end(LET_MOST + "for i = m - 1 to m { say i } say 1", "number", MOST - 1, MOST, used=5)
        self.assert_says(LET_MOST + "for i = m - 1 to m - 1 { say i } say 1", MOST - 1, 1)
        self.assert_says(LET_MOST + "for i = -m to 1 - m { say i } say 1", -MOST, 1 - MOST, 1)
        self.assert_says(LET_MOST + "for i = m to 1 { say i } say 1", 1)

    def test_the_next_value_comes_ahead_of_the_tick(self):
        text = LET_MOST + "for i = m to m { }"
        self.assert_run(text, SMALL, [], [], "number", 2, ticks=2)
        self.assert_run(text, SMALL, [], [], "limit", 1, ticks=1)

    def test_the_tick_comes_ahead_of_the_next_test(self):
        self.assert_run("for i = 1 to 1 { }", SMALL, [], [], "limit", 1, ticks=1)
        self.assert_run("for i = 1 to 1 { }", SMALL, [], [], "done", 2, ticks=2)


class Calls(RunsTest):
    def test_calls(self):
        self.assert_says("def f() { say 1 } do f() say 2 do f()", 1, 2, 1, used=5)
        self.assert_says("def f() { } do f()", used=1)
        self.assert_says("def f(a, b) { say a - b } do f(5, 3)", 2, used=2)
        self.assert_says("def f(a) { say a } let x = 4 do f(x + 1) say x", 5, 4)

    def test_calls_within_calls(self):
        self.assert_says("def f() { do g(1) say 2 } def g(a) { say a } do f() say 3", 1, 2, 3, used=5)
        self.assert_says("def g(a) { say a } def f() { for i = 1 to 2 { do g(i) say i * 10 } } do f()", 1, 10, 2, 20)

    def test_the_caller_goes_on_where_it_called(self):
        self.assert_says("def f(n) { while n { let n = n - 1 do f(n) say n } } do f(2)", 0, 1, 0)
        self.assert_says("def f(n) { for i = 1 to n { do f(n - 1) say n * 10 + i } } do f(2)", 11, 21, 11, 22)
        self.assert_says("def f(n) { if n { do f(n - 1) say n } else { say 9 } say 7 } do f(1)", 9, 7, 1, 7)

    def test_the_30th_and_the_31st_call(self):
        text = "def f(n) { say n if n < @ { do f(n + 1) } } do f(1) say 99"
        self.assert_says(text.replace("@", "30"), *range(1, 31), 99, used=91)
        self.assert_end(text.replace("@", "31"), "depth", *range(1, 31), used=91)

    def test_calls_that_came_back_do_not_count(self):
        self.assert_says("def f() { } for i = 1 to 100 { do f() } say 1", 1)
        self.assert_says("def f(n) { if n { do f(n - 1) do f(n - 1) } } do f(3) do f(29 - 26) say 1", 1)
        self.assert_says("def f(n) { if n { do f(n - 1) } } do f(29) do f(29) say 1", 1)
        self.assert_end("def f(n) { if n { do f(n - 1) } } do f(29) do f(30) say 1", "depth")

    def test_a_call_at_the_end_of_a_block_has_not_come_back(self):
        self.assert_end("def f() { do f() } do f()", "depth", used=31)
        self.assert_end("def f() { do g() } def g() { do f() } do f()", "depth", used=31)

    def test_the_expressions_are_worked_out_ahead_of_the_depth(self):
        text = "def f(n) { do f(n + 60 / (30 - n)) } do f(1)"
        self.assert_end("def f(n, m) { do f(n + 1, 60 / (30 - n)) } do f(1, 1)", "divide", used=31)
        self.assert_end("def f(n, m) { do f(n + 1, 60 / (31 - n)) } do f(1, 1)", "depth", used=31)
        self.assertEqual(run(text, SMALL, 99)[3], "divide")

    def test_stop_in_a_definition(self):
        self.assert_end("def f() { say 1 stop say 2 } say 0 do f() say 3", "stopped", 0, 1, used=4)
        self.assert_end("def f(n) { if n { do f(n - 1) } stop } do f(5) say 3", "stopped")

    def test_the_expressions_from_the_left(self):
        self.assert_end("def f(a, b) { } do f(1 / 0, black(0, 0))", "divide")
        self.assert_end("def f(a, b) { } do f(black(0, 0), 1 / 0)", "range")


class Ends(RunsTest):
    def test_done(self):
        self.assert_run("row 1 say 2", ("##", "..", ".#"), [0], [2], "done", 2, ticks=2)

    def test_stopped(self):
        self.assert_run("row 1 say 2 stop col 1", ("##", "..", ".#"), [0], [2], "stopped", 3)
        self.assert_run("while 1 { for i = 1 to 9 { if i = 2 { stop } say i } }", SMALL, [], [1], "stopped", 7)

    def test_limit(self):
        text = "row 1 say 2 if 1 { col 1 }"
        white = ("..", "..", ".#")
        black = ("##", "..", ".#")
        self.assert_run(text, SMALL, [], [], "limit", 0, ticks=0)
        self.assert_run(text, black, [0], [], "limit", 1, ticks=1)
        self.assert_run(text, black, [0], [2], "limit", 2, ticks=2)
        self.assert_run(text, black, [0], [2], "limit", 3, ticks=3)
        self.assert_run(text, (".#", "..", ".#"), [0, 3], [2], "done", 4, ticks=4)
        self.assert_run("stop", white, [], [], "limit", 0, start=white, ticks=0)
        self.assert_run("stop", white, [], [], "stopped", 1, start=white, ticks=1)

    def test_the_last_tick_and_one_less_of_each_statement(self):
        for text, used in (("row 1", 1), ("col 1", 1), ("say 1", 1), ("let x = 1", 1), ("if 0 { }", 1),
                           ("while 0 { }", 1), ("for i = 2 to 1 { }", 1), ("for i = 1 to 2 { }", 3),
                           ("def f() { } do f()", 1), ("def f() { say 1 } do f()", 2),
                           ("let x = 2 while x { let x = x - 1 }", 6)):
            for ticks in range(used + 3):
                with self.subTest(text, ticks=ticks):
                    self.assertEqual(run(text, SMALL, ticks)[3], "limit" if ticks < used else "done")
                    self.assertEqual(ticks_of(text, SMALL, ticks), min(ticks, used))

    def test_no_tick_is_left_for_what_would_end_the_run(self):
        for text in ("row 9", "say 1 / 0", "let x = 1000 * 1000 * 1001", "stop", "def f() { do f() } do f()"):
            self.assert_run(text, SMALL, [], [], "limit", 0, ticks=0)

    def test_ticks_of_each_end(self):
        for text, end, used in (("say 1 say 2", "done", 2), ("say 1 stop say 2", "stopped", 2),
                                ("while 1 { }", "limit", 1000), ("say 1 say 1000 * 1000 * 1001 say 2", "number", 2),
                                ("say 1 say 1 / 0 say 2", "divide", 2), ("say 1 row 9 say 2", "range", 2),
                                ("def f() { say 1 do f() } do f()", "depth", 61)):
            with self.subTest(text):
                self.assertEqual(run(text, SMALL, 1000)[3], end)
                self.assertEqual(ticks_of(text, SMALL, 1000), used)

    def test_long_runs(self):
        self.assert_run("while 1 { }", SMALL, [], [], "limit", 20000, ticks=20000)
        self.assert_run("while 1 { row 1 col 1 }", ("##", "..", ".#"), [0, 3] * 6666 + [0], [], "limit", 20000,
                        ticks=20000)
        self.assert_run("for i = 1 to 10000 { }", SMALL, [], [], "done", 10001, ticks=20000)
        self.assert_run("let x = 0 while x < 6666 { let x = x + 1 } say x", SMALL, [], [6666], "done", 13335,
                        ticks=20000)
        self.assert_run("say 1 " * 16000, SMALL, [], [1] * 16000, "done", 16000, ticks=20000)
        self.assert_run("for i = 1 to 999999 { say i }", SMALL, [], range(1, 10001), "limit", 20000, ticks=20000)

    def test_a_long_run_within_calls(self):
        text = "def f(n) { if n { do f(n - 1) do f(n - 1) } else { row 1 col 2 } } do f(11) say 7"
        picture, lines, said, end = run(text, SMALL, 20000)
        self.assertEqual((picture, said, end), (("#.", "..", ".."), (7,), "done"))
        self.assertEqual(lines, (0, 4) * 2048)
        self.assertEqual(ticks_of(text, SMALL, 20000), 4095 * 2 + 4096 + 1)

    def test_blocks_and_calls_within_one_another(self):
        text = "def f(n) { " + "if 1 { " * 28 + "if n { do f(n - 1) } say n " + "} " * 28 + "} do f(29)"
        self.assert_says(text, *range(30))


class Codes(RunsTest):
    def test_a_program_and_its_code_have_the_same_run(self):
        ends = {}
        for tree, text in made_programs(300):
            for picture in (SMALL, ("#",), (".#.", "#.#")):
                for ticks in (0, 5, 37, 400):
                    with self.subTest(text, picture=picture, ticks=ticks):
                        ended, used = executed(text, picture, ticks)
                        self.assertEqual(run(text, picture, ticks), ended)
                        self.assertEqual(ticks_of(text, picture, ticks), used)
                        ends[ended[3]] = True
        self.assertEqual(sorted(ends), ["depth", "divide", "done", "limit", "range", "stopped"])


if __name__ == "__main__":
    unittest.main()
