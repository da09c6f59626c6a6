"""Points 6 and 7, and of point 1 what holds for texts: the heading strokes/checks.py."""

import unittest

import strokes.checks
from strokes.checks import check, is_good, looks, sizes, unreached
from strokes.errors import InvalidText, MayBeUnset, NotText, StrokeError, UnknownName, WrongCount
from strokes.trees import read
from tests.machine import begun
from tests.programs import OTHERS, made_programs

EXPRESSIONS = "num name rows cols black neg not or and < <= = != + - * / mod".split()
FUNCTIONS = (check, is_good, unreached, looks, sizes)


class ChecksTest(unittest.TestCase):
    def assert_good(self, *texts):
        for text in texts:
            with self.subTest(text):
                self.assertIsNone(check(text))
                self.assertIs(is_good(text), True)

    def assert_error(self, text, error, name):
        with self.subTest(text):
            self.assertIs(is_good(text), False)
        for function in (check, unreached, looks, sizes):
            with self.subTest(text, function=function.__name__):
                with self.assertRaises(error) as caught:
                    function(text)
                self.assertIs(type(caught.exception), error)
                self.assertEqual(caught.exception.name, name)

    def assert_unset(self, name, *texts):
        for text in texts:
            self.assert_error(text, MayBeUnset, name)


class TheInterface(ChecksTest):
    def test_the_functions_are_defined_in_the_file(self):
        for function in FUNCTIONS:
            self.assertEqual(function.__module__, "strokes.checks")
            self.assertIs(getattr(strokes.checks, function.__name__), function)

    def test_the_examples(self):
        self.assertIsNone(check("say 1"))
        self.assertIs(is_good("say x"), False)
        self.assertEqual(unreached("stop say 1 if 0 { say 2 }"), [1, 2, 3])
        self.assertIs(looks("if black(1, 1) { }"), True)
        self.assertEqual(sizes("let x = 1 + rows say x"), (0, 2, 4))
        self.assert_unset("y", "let x = y")
        self.assert_error("do f()", UnknownName, "f")

    def test_the_arguments_by_name(self):
        self.assertIsNone(check(text="stop"))
        self.assertIs(is_good(text="stop"), True)
        self.assertEqual(unreached(text="stop"), [])
        self.assertIs(looks(text="stop"), False)
        self.assertEqual(sizes(text="stop"), (0, 1, 0))

    def test_the_empty_text(self):
        self.assert_good("", " \n")
        self.assertEqual((unreached(""), looks(""), sizes("")), ([], False, (0, 0, 0)))

    def test_the_errors_of_reading(self):
        for function in FUNCTIONS:
            for value in OTHERS:
                with self.subTest(repr(value), function=function.__name__):
                    with self.assertRaises(NotText):
                        function(value)
            for text, place in (("row 1 2", 7), ("do f(", 6), ("say x A", 7), ("say x" + " " * 99996, 100001),
                                ("def f() { } def f() { } do g()", 17)):
                with self.subTest(text[:30], function=function.__name__):
                    with self.assertRaises(InvalidText) as caught:
                        function(text)
                    self.assertEqual(caught.exception.place, place)

    def test_returned_lists_are_new(self):
        unreached("stop stop").append(7)
        self.assertEqual(unreached("stop stop"), [1])


class Calls(ChecksTest):
    def test_good_calls(self):
        self.assert_good("def f() { } do f()", "def f(a) { } do f(1)", "def f(a, b) { } do f(1, 2)")
        self.assert_good("def f() { do g() } def g() { do f() }", "def f() { do f() }")

    def test_unknown_names(self):
        self.assert_error("do f()", UnknownName, "f")
        self.assert_error("def f() { } do g()", UnknownName, "g")
        self.assert_error("def f() { do g() }", UnknownName, "g")
        self.assert_error("def f(g) { do g() } do f(1)", UnknownName, "g")
        self.assert_error("let f = 1 do f()", UnknownName, "f")
        for text in ("if 0 { do f() }", "if 1 { } else { do f() }", "while 0 { do f() }", "for i = 1 to 0 { do f() }",
                     "stop do f()", "while 1 { } do f()"):
            self.assert_error(text, UnknownName, "f")

    def test_wrong_counts(self):
        for text in ("def f() { } do f(1)", "def f(a) { } do f()", "def f(a) { } do f(1, 2)",
                     "def f(a, b) { } do f(1)", "def f(a, b, c) { } do f(1, 2, 3, 4)", "def f(a) { do f() }",
                     "def f(a) { } stop do f()", "def g() { do f(1, 2) } def f(a) { }"):
            self.assert_error(text, WrongCount, "f")

    def test_the_first_call_in_the_order_of_the_text(self):
        self.assert_error("do f() do g()", UnknownName, "f")
        self.assert_error("def f() { } do f(1) do g()", WrongCount, "f")
        self.assert_error("def f() { } do g() do f(1)", UnknownName, "g")
        self.assert_error("def f() { do h() } def g() { do i() } do j()", UnknownName, "h")
        self.assert_error("def f() { } do f(1) if 1 { do g() }", WrongCount, "f")
        self.assert_error("if 1 { if 1 { do a() } do b() } else { do c() } do d()", UnknownName, "a")
        self.assert_error("if 1 { } else { do c() } do d()", UnknownName, "c")
        self.assert_error("def a(x) { } def b() { } if 1 { do b() do a() do b(1) } do c()", WrongCount, "a")

    def test_calls_ahead_of_names(self):
        self.assert_error("say x do f()", UnknownName, "f")
        self.assert_error("def g() { say x } def f(a) { } say y do f(1, z)", WrongCount, "f")


class Names(ChecksTest):
    def test_let(self):
        self.assert_good("let x = 1 say x", "let x = 1 let x = x", "let x = 1 let y = x say x + y")
        self.assert_unset("x", "say x", "let x = x", "say x let x = 1", "let y = 1 say x")

    def test_each_place_of_an_expression(self):
        for text in ("row x", "col x", "say x", "let y = x", "if x { }", "while x { }", "for i = x to 1 { }",
                     "for i = 1 to x { }", "def f(a) { } do f(x)", "def f(a, b) { } do f(1, x)"):
            self.assert_unset("x", text)
            definition, _, statement = text.rpartition("} ") if "def" in text else ("", "", text)
            self.assert_good((definition + "} " if definition else "") + "let x = 1 " + statement)

    def test_each_expression(self):
        for expression in ("x", "-x", "not x", "black(x, 1)", "black(1, x)", "(x)", "1 + -(2 * x)"):
            self.assert_unset("x", "say " + expression)
        for mark in ("or", "and", "<", "<=", "=", "!=", "+", "-", "*", "/", "mod"):
            self.assert_unset("x", f"say x {mark} 1", f"say 1 {mark} x", f"say x {mark} y")
        self.assert_unset("x", "say 1 or x", "say 0 and x")

    def test_arguments(self):
        self.assert_good("def f(a, b) { say a + b }", "def f(a) { let a = a }")
        self.assert_unset("b", "def f(a) { say b }", "def f(a) { say a say b }")
        self.assert_unset("a", "def f(a) { } say a", "def f(a) { } def g() { say a }")

    def test_names_of_definitions_are_no_names_that_are_set(self):
        self.assert_unset("f", "def f() { } say f", "def f() { say f }")

    def test_calls_set_and_see_nothing_of_the_caller(self):
        self.assert_unset("x", "def f() { let x = 1 } do f() say x", "def f() { say x } let x = 1 do f()")
        self.assert_unset("x", "def f(x) { } do f(1) say x", "def f() { say x } def g(x) { do f() }")
        self.assert_good("def f(x) { say x } let y = 1 do f(y) say y")

    def test_a_definition_that_is_never_called(self):
        self.assert_unset("x", "def f() { say x }", "def f() { say x } row 1")

    def test_for(self):
        self.assert_good("for i = 1 to 2 { say i }", "for i = 1 to 2 { for j = i to i { say i + j } say i }")
        self.assert_good("let i = 1 for i = i to i { say i } say i", "for i = 1 to 2 { let i = i }")
        self.assert_unset("i", "for i = 1 to 2 { } say i", "for i = i to 2 { }", "for i = 1 to i { }")
        self.assert_unset("x", "for i = 1 to 2 { let x = i } say x", "for i = 1 to 2 { say x let x = 1 }")

    def test_while(self):
        self.assert_good("let x = 1 while x { let x = 0 } say x", "while rows { let x = 1 say x }")
        self.assert_unset("x", "while rows { let x = 1 } say x", "while x { let x = 1 }",
                          "while rows { say x let x = 1 }", "while 0 { let x = 1 } say x")

    def test_if(self):
        self.assert_good("if 1 { let x = 1 say x }", "if rows { let x = 1 } else { let x = 2 } say x",
                         "let x = 1 if x { say x } else { say x }",
                         "if 1 { let x = 1 let y = 1 } else { let x = 2 } say x",
                         "if 1 { if 2 { let x = 1 } else { let x = 2 } } else { let x = 3 } say x")
        self.assert_unset("x", "if 1 { let x = 1 } say x", "if 1 { let x = 1 } else { } say x",
                          "if 1 { } else { let x = 1 } say x", "if 1 { let x = 1 } else { say x }",
                          "if 1 { let y = 1 } else { let x = 2 } say x", "if x { let x = 1 } else { let x = 2 }",
                          "if 1 { let x = 1 } else { if 2 { let x = 2 } } say x",
                          "if 1 { let x = 1 } else { let y = 2 } if 1 { let y = 1 } else { let x = 2 } say x")
        self.assert_unset("y", "if 1 { let x = 1 let y = 1 } else { let x = 2 } say x say y")

    def test_a_way_that_ends_in_stop(self):
        self.assert_good("if 1 { stop } else { let x = 1 } say x", "if 1 { let x = 1 } else { stop } say x",
                         "if rows { if cols { stop } else { stop } } else { let x = 1 } say x",
                         "if rows { let y = 1 stop } else { let x = 1 } say x",
                         "if 1 { let x = 1 if cols { stop } } else { let x = 1 } say x",
                         "if 1 { if 2 { let x = 1 } else { stop } } else { let x = 2 } say x")
        self.assert_unset("x", "if rows { stop } say x", "if rows { stop } else { } say x",
                          "if rows { } else { stop } say x", "if 1 { stop } else { let y = 1 } say x",
                          "if rows { if cols { stop } } else { let x = 1 } say x",
                          "if rows { while cols { stop } } else { let x = 1 } say x",
                          "if rows { for i = 1 to 2 { stop } } else { let x = 1 } say x")

    def test_a_way_that_ends_in_such_a_while(self):
        self.assert_good("if rows { while 1 { } } else { let x = 1 } say x",
                         "if rows { let x = 1 } else { while 7 { let y = 1 } } say x")
        self.assert_unset("x", "if rows { while 0 { } } else { let x = 1 } say x",
                          "if rows { while rows { } } else { let x = 1 } say x")

    def test_behind_stop(self):
        self.assert_good("stop say x", "stop let x = y say z", "stop if x { say y } else { say z }",
                         "stop while x { say y }", "stop for i = x to y { say z }", "if 1 { stop say x }",
                         "def f() { stop say x }", "while rows { stop say x }", "for i = 1 to 2 { stop say x }",
                         "if 1 { } else { stop say x }", "def f(a) { } stop do f(x)")
        self.assert_unset("x", "if 1 { stop } say x", "say x stop", "while rows { stop } say x",
                          "for i = 1 to 2 { stop } say x", "def f() { stop } do f() say x", "def f() { stop } say x")

    def test_behind_an_if_both_of_whose_ways_end_so(self):
        self.assert_good("if rows { stop } else { stop } say x", "if rows { stop } else { while 1 { } } say x",
                         "if rows { if cols { stop } else { stop } } else { stop } say x",
                         "if rows { stop } else { stop } while rows { say x } say y")

    def test_behind_while_on_a_written_number_unlike_0(self):
        self.assert_good("while 1 { } say x", "while 999999 { } say x", "while (1) { } say x",
                         "def f() { while 1 { } say x }", "if 1 { while 1 { } say x }", "while 1 { let x = 1 } say x")
        self.assert_unset("x", "while 0 { } say x", "while -1 { } say x", "while not 0 { } say x",
                          "while 1 + 0 { } say x", "while rows { } say x", "if rows { while 1 { } } say x",
                          "while 1 { say x }", "while 1 { let y = 1 say x } say z")

    def test_ifs_on_written_numbers_have_two_ways(self):
        self.assert_unset("x", "if 1 { let x = 1 } say x", "if 0 { } else { let x = 1 } say x", "if 0 { say x }",
                          "if 1 { } else { say x }", "if 1 { stop } say x", "if 0 { } else { stop } say x",
                          "while 0 { say x }")

    def test_the_first_name_in_the_order_of_the_text(self):
        self.assert_unset("x", "say x say y", "say x + y", "say (1 + x) * y", "say black(x, y)", "say not x and -y",
                          "for i = x to y { say z }", "if x { say y } else { say z }", "if 1 { say x } else { say y }",
                          "while x { say y }", "def f(a, b) { } do f(x, y)", "let y = x say z",
                          "def f() { say x } say y", "def f() { say x } def g() { say y }", "while 1 { say x } say y",
                          "if rows { while rows { say x } } say y")
        self.assert_unset("y", "let x = 1 say x say y say z", "if 1 { stop say x } say y")


class Unreached(ChecksTest):
    def assert_unreached(self, text, *numbers):
        with self.subTest(text):
            self.assertEqual(unreached(text), list(numbers))

    def test_all_reached(self):
        for text in ("row 1 col 2 say 3", "if rows { say 1 } else { say 2 } say 3", "while rows { say 1 } say 2",
                     "for i = 1 to 0 { say 1 } say 2", "def f() { say 1 } do f() say 2", "stop", "say 1 stop"):
            self.assert_unreached(text)

    def test_behind_stop(self):
        self.assert_unreached("stop say 1", 1)
        self.assert_unreached("say 1 stop say 2 say 3", 2, 3)
        self.assert_unreached("stop stop stop", 1, 2)
        self.assert_unreached("if rows { stop say 1 } say 2", 2)
        self.assert_unreached("if rows { say 1 } else { stop say 1 } say 2", 3)
        self.assert_unreached("while rows { stop say 1 } say 2", 2)
        self.assert_unreached("for i = 1 to 2 { stop say 1 } say 2", 2)

    def test_all_that_stands_in_what_is_not_reached(self):
        self.assert_unreached("stop if rows { say 1 } else { say 2 } while rows { say 3 } say 4", 1, 2, 3, 4, 5, 6)
        self.assert_unreached("if 0 { while 1 { if rows { say 1 } } } say 2", 1, 2, 3)

    def test_behind_a_while_on_a_written_number(self):
        self.assert_unreached("while 1 { say 1 } say 2", 2)
        self.assert_unreached("while 7 { } say 2 say 3", 1, 2)
        self.assert_unreached("while (3) { } say 2", 1)
        self.assert_unreached("if rows { while 1 { } say 2 } say 3", 2)
        self.assert_unreached("while 1 { stop say 1 } say 2", 2, 3)
        self.assert_unreached("while -1 { say 1 } say 2")
        self.assert_unreached("while not 0 { say 1 } say 2")
        self.assert_unreached("while 1 + 1 { say 1 } say 2")
        self.assert_unreached("while 1 < 2 { stop } say 2")

    def test_behind_an_if(self):
        self.assert_unreached("if rows { stop } else { stop } say 1", 3)
        self.assert_unreached("if rows { stop } say 1")
        self.assert_unreached("if rows { } else { stop } say 1")
        self.assert_unreached("if rows { stop } else { } say 1")
        self.assert_unreached("if rows { while 1 { } } else { stop } say 1", 3)
        self.assert_unreached("if rows { stop say 1 } else { say 2 stop } say 3", 2, 5)
        self.assert_unreached("if rows { if cols { stop } else { stop } } else { stop } say 1", 5)
        self.assert_unreached("if rows { if cols { stop } } else { stop } say 1")
        self.assert_unreached("while rows { if cols { stop } else { stop } say 1 } say 2", 4)
        self.assert_unreached("if rows { while rows { stop } } else { stop } say 1")
        self.assert_unreached("if rows { for i = 1 to 2 { stop } } else { stop } say 1")

    def test_an_if_on_a_written_number(self):
        self.assert_unreached("if 0 { say 1 } say 2", 1)
        self.assert_unreached("if 1 { say 1 } say 2")
        self.assert_unreached("if 0 { say 1 } else { say 2 } say 3", 1)
        self.assert_unreached("if 5 { say 1 } else { say 2 } say 3", 2)
        self.assert_unreached("if (0) { say 1 } say 2", 1)
        self.assert_unreached("if -1 { say 1 } else { say 2 } say 3")
        self.assert_unreached("if not 1 { say 1 } else { say 2 }")

    def test_behind_an_if_on_a_written_number(self):
        self.assert_unreached("if 1 { stop } say 1", 2)
        self.assert_unreached("if 0 { stop } say 1", 1)
        self.assert_unreached("if 1 { stop } else { say 1 } say 2", 2, 3)
        self.assert_unreached("if 1 { say 1 } else { stop } say 2", 2)
        self.assert_unreached("if 0 { say 1 } else { stop } say 2", 1, 3)
        self.assert_unreached("if 0 { stop } else { say 1 } say 2", 1)
        self.assert_unreached("if 1 { while 1 { } } say 1", 2)
        self.assert_unreached("if 1 { if rows { stop } else { stop } } say 1", 4)

    def test_a_while_on_a_written_0(self):
        self.assert_unreached("while 0 { say 1 say 2 } say 3", 1, 2)
        self.assert_unreached("while 0 { stop } say 3", 1)
        self.assert_unreached("while 1 - 1 { say 1 } say 3")
        self.assert_unreached("while 1 { while 0 { say 1 } say 2 }", 2)

    def test_definitions(self):
        self.assert_unreached("def f() { say 1 say 2 } say 3", 0, 1)
        self.assert_unreached("def f() { say 1 } def g() { say 2 } do g()", 0)
        self.assert_unreached("def f() { say 1 } def g() { do f() } do g()")
        self.assert_unreached("def f() { say 1 } def g() { do f() } say 1", 0, 1)
        self.assert_unreached("def f() { do f() } say 1", 0)
        self.assert_unreached("def f() { do g() } def g() { do f() } say 1", 0, 1)
        self.assert_unreached("def f() { do g() } def g() { do f() } do f()")
        self.assert_unreached("def f() { do g() } def g() { say 1 } do f()")
        self.assert_unreached("def f() { if rows { say 1 } say 2 } def g() { say 3 } do g()", 0, 1, 2)

    def test_definitions_that_what_is_not_reached_calls(self):
        self.assert_unreached("def f() { say 1 } stop do f()", 0, 2)
        self.assert_unreached("def f() { say 1 } if 0 { do f() }", 0, 2)
        self.assert_unreached("def f() { say 1 } def g() { stop do f() } do g()", 0, 2)
        self.assert_unreached("def f() { say 1 } def g() { do f() } while 0 { do g() }", 0, 1, 3)
        self.assert_unreached("def f() { say 1 } stop do f() do f()", 0, 2, 3)

    def test_ways_in_definitions(self):
        self.assert_unreached("def f() { stop say 1 } do f() say 2", 1)
        self.assert_unreached("def f(a) { if a { stop } else { stop } say 1 } do f(1) do f(2)", 3)
        self.assert_unreached("def f() { while 1 { } say 1 } def g() { if 0 { say 2 } say 3 } do f() do g()", 1, 3)

    def test_a_call_is_taken_to_come_back(self):
        self.assert_unreached("def f() { stop } do f() say 1")
        self.assert_unreached("def f() { while 1 { } } do f() say 1")
        self.assert_unreached("def f() { stop } if rows { do f() } else { stop } say 1")

    def test_what_is_told_is_never_begun(self):
        some = 0
        for tree, text in made_programs(300):
            with self.subTest(text):
                numbers = unreached(text)
                self.assertEqual(numbers, sorted(set(numbers)))
                some += len(numbers)
                for picture in (("#.", ".#"), (".",)):
                    self.assertEqual(begun(text, picture, 300) & set(numbers), set())
        self.assertGreater(some, 100)


class Looks(ChecksTest):
    def test_looks(self):
        for text in ("say black(1, 1)", "row 1 + black(1, 1)", "while not black(1, 1) { }", "stop say black(1, 1)",
                     "def f() { say black(1, 1) }", "def f(a) { } do f(-black(1, 1))", "if 0 { col black(1, 1) }",
                     "let x = 1 or black(1, 1)", "for i = 1 to black(1, 1) { }", "for i = black(1, 1) to 1 { }"):
            with self.subTest(text):
                self.assertIs(looks(text), True)

    def test_no_looks(self):
        for text in ("", "row 1", "let blacks = 1 say blacks", "def white(a) { say a } do white(rows)", "col cols"):
            with self.subTest(text):
                self.assertIs(looks(text), False)


class Sizes(ChecksTest):
    def assert_sizes(self, text, *expected):
        with self.subTest(text):
            self.assertEqual(sizes(text), expected)
            self.assertIs(type(sizes(text)), tuple)

    def test_each_expression(self):
        for expression, number in (("1", 1), ("rows", 1), ("cols", 1), ("-1", 2), ("--1", 3), ("not 1", 2),
                                   ("not not 1", 3), ("black(1, 2)", 3), ("1 + 2", 3), ("1 + 2 * 3", 5),
                                   ("(1)", 1), ("((1 + 2)) * 3", 5), ("-black(-1, rows + 2)", 7),
                                   ("not 1 < 2 and 3 or 4", 8)):
            self.assert_sizes("say " + expression, 0, 1, number)
        for mark in ("or", "and", "<", "<=", "=", "!=", "+", "-", "*", "/", "mod"):
            self.assert_sizes(f"say 1 {mark} 2", 0, 1, 3)
        self.assert_sizes("let x = 1 say x", 0, 2, 2)

    def test_each_statement(self):
        for text, number in (("row 1", 1), ("col 1", 1), ("say 1", 1), ("let x = 1", 1), ("if 1 { }", 1),
                             ("while 1 { }", 1), ("for i = 1 to 2 { }", 2), ("stop", 0)):
            self.assert_sizes(text, 0, 1, number)

    def test_calls_and_definitions(self):
        self.assert_sizes("def f() { } do f()", 1, 1, 0)
        self.assert_sizes("def f(a, b) { } do f(1, 2 + 3)", 1, 1, 4)
        self.assert_sizes("def f() { say 1 } def g() { stop stop }", 2, 3, 1)

    def test_blocks(self):
        self.assert_sizes("if 1 { say 2 say 3 } else { say 4 }", 0, 4, 4)
        self.assert_sizes("while 1 { for i = 1 to 2 { if i { stop } } } say 3", 0, 5, 5)

    def test_what_is_not_reached_counts(self):
        self.assert_sizes("stop say x", 0, 2, 1)
        self.assert_sizes("if 0 { say 1 }", 0, 2, 2)

    def test_a_long_sum(self):
        self.assert_sizes("say 1" + "+1" * 40000, 0, 1, 80001)

    def test_made_programs(self):
        for (definitions, statements), text in made_programs(50):
            self.assert_sizes(text, len(definitions), *counted((definitions, statements)))


def counted(tree):
    """Return the pair of the numbers of statements and of expressions of a tree."""
    statements = expressions = 0
    waiting = [tree]
    while waiting:
        value = waiting.pop()
        if isinstance(value, tuple):
            waiting.extend(value)
            if value and isinstance(value[0], str):
                if value[0] in ("row", "col", "say", "let", "if", "while", "for", "do", "stop"):
                    statements += 1
                elif value[0] in EXPRESSIONS:
                    expressions += 1
    return statements, expressions


class LongPrograms(ChecksTest):
    def test_long_programs(self):
        self.assert_good("row 1 " * 16000, "let x = 1 " * 9000, "say 1" + "+1" * 49000)
        self.assertEqual(unreached("stop " * 20000), list(range(1, 20000)))
        self.assert_unset("x", "say 1" + "+1" * 49000 + "+x")
        self.assertEqual(sizes("row 1 " * 16000), (0, 16000, 16000))

    def test_many_calls(self):
        names = ["".join("bcdfghjklm"[int(sign)] for sign in str(number)) for number in range(1000)]
        text = "".join(f"def {name}() {{ do {after}() }}" for name, after in zip(names, names[1:] + names[:1]))
        self.assert_good(text)
        self.assertEqual(unreached(text), list(range(1000)))
        self.assertEqual(unreached(text + "do b()"), [])

    def test_nests(self):
        text = "if rows {" * 30 + "let x = 1" + "} else { stop }" * 30 + "say x"
        self.assert_good(text)
        self.assertEqual(unreached(text), [])
        self.assertEqual(sizes(text), (0, 62, 32))
        self.assert_unset("x", "if rows {" * 30 + "let x = 1" + "} else { stop }" * 29 + "} say x")


class ErrorsOfGoodness(ChecksTest):
    def test_they_are_errors_of_the_package(self):
        for text in ("say x", "do f()", "def f() { } do f(1)"):
            with self.assertRaises(StrokeError):
                check(text)

    def test_reading_asks_for_none_of_them(self):
        self.assertEqual(read("say x"), ((), (("say", ("name", "x")),)))


if __name__ == "__main__":
    unittest.main()
