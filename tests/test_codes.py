"""Points 9 and 10, but for runs of codes, and of point 1 what holds for values: the heading strokes/codes.py."""

import unittest

import strokes.codes
from strokes.codes import code, is_code, orders, read_code, write_code
from strokes.errors import BadCode, InvalidText, MayBeUnset, NotText, UnknownName, WrongCount
from tests.programs import OTHERS, made_programs, orders_of, unmarked

FUNCTIONS = (code, orders, is_code, write_code, read_code)
PLAIN = ("copy rows cols black add sub mul div mod lt le eq ne neg not truth "
         "row col say back stop done").split()
COUNTED = "load store tick frame".split()
LEADING = "jump zero some call".split()
NUMBERED = ["push"] + COUNTED + LEADING
MOST = 10 ** 9


class CodesTest(unittest.TestCase):
    maxDiff = None

    def assert_code(self, text, lines):
        with self.subTest(text):
            self.assertEqual(code(text), orders_of(lines))
            self.assertEqual(orders(text), len(orders_of(lines)))
            self.assertIs(is_code(code(text)), True)

    def assert_expression(self, expression, lines):
        """The orders of an expression that stands behind say; they begin at the place 2."""
        self.assert_code("say " + expression, "frame 0, tick 0," + lines + ", say, done")


class TheInterface(CodesTest):
    def test_the_functions_are_defined_in_the_file(self):
        for function in FUNCTIONS:
            self.assertEqual(function.__module__, "strokes.codes")
            self.assertIs(getattr(strokes.codes, function.__name__), function)

    def test_the_examples(self):
        self.assertEqual(code("row 1"), (("frame", 0), ("tick", 0), ("push", 1), ("row", 0), ("done", 0)))
        self.assertEqual(orders("row 1"), 5)
        self.assertEqual(write_code(code("row 1")), "frame 0\ntick 0\npush 1\nrow\ndone")
        self.assertEqual(read_code("frame 0\ndone"), (("frame", 0), ("done", 0)))
        self.assertIs(is_code((("done", 0),)), False)
        with self.assertRaises(InvalidText) as caught:
            read_code("frame 0\ndones")
        self.assertEqual(caught.exception.place, 9)

    def test_the_arguments_by_name(self):
        self.assertEqual(code(text=""), (("frame", 0), ("done", 0)))
        self.assertEqual(orders(text=""), 2)
        self.assertEqual(read_code(text="frame 0\nstop"), (("frame", 0), ("stop", 0)))
        self.assertIs(is_code(value=None), False)
        self.assertEqual(write_code(value=(("frame", 7), ("stop", 0))), "frame 7\nstop")

    def test_the_errors_of_programs(self):
        for function in (code, orders):
            for value in OTHERS:
                with self.assertRaises(NotText):
                    function(value)
            for text, error, fields in (
                ("row 1 2", InvalidText, {"place": 7}), ("say x" + " " * 99996, InvalidText, {"place": 100001}),
                ("say x do f()", UnknownName, {"name": "f"}), ("def f() { } do f(1)", WrongCount, {"name": "f"}),
                ("say x", MayBeUnset, {"name": "x"}),
            ):
                with self.subTest(text[:30], function=function.__name__):
                    with self.assertRaises(error) as caught:
                        function(text)
                    self.assertEqual(vars(caught.exception), fields)


class Expressions(CodesTest):
    def test_parts(self):
        self.assert_expression("7", "push 7")
        self.assert_expression("999999", "push 999999")
        self.assert_expression("rows", "rows")
        self.assert_expression("cols", "cols")
        self.assert_expression("-7", "push 7, neg")
        self.assert_expression("--7", "push 7, neg, neg")
        self.assert_expression("(7)", "push 7")
        self.assert_expression("not 7", "push 7, not")
        self.assert_expression("not not 7", "push 7, not, not")
        self.assert_expression("black(1, 2)", "push 1, push 2, black")
        self.assert_expression("black(-rows, black(1, 2))", "rows, neg, push 1, push 2, black, black")

    def test_marks(self):
        for mark, word in (("+", "add"), ("-", "sub"), ("*", "mul"), ("/", "div"), ("mod", "mod"), ("<", "lt"),
                           ("<=", "le"), ("=", "eq"), ("!=", "ne")):
            self.assert_expression(f"1 {mark} 2", f"push 1, push 2, {word}")
            self.assert_expression(f"-rows {mark} (-2)", f"rows, neg, push 2, neg, {word}")

    def test_marks_within_one_another(self):
        self.assert_expression("1 + 2 * 3 - 4", "push 1, push 2, push 3, mul, add, push 4, sub")
        self.assert_expression("1 - (2 - 3)", "push 1, push 2, push 3, sub, sub")
        self.assert_expression("not 1 < 2 + 3", "push 1, push 2, push 3, add, lt, not")

    def test_and(self):
        self.assert_expression("1 and 2", "push 1, truth, copy, zero 9, push 2, truth, mul")
        self.assert_expression("1 and 2 and 3", "push 1, truth, copy, zero 9, push 2, truth, mul, "
                                                "truth, copy, zero 15, push 3, truth, mul")
        self.assert_expression("1 and (2 and 3)", "push 1, truth, copy, zero 15, push 2, truth, copy, zero 13, push 3, "
                                                  "truth, mul, truth, mul")

    def test_or(self):
        self.assert_expression("1 or 2", "push 1, truth, copy, some 9, push 2, truth, add")
        self.assert_expression("1 or 2 or 3", "push 1, truth, copy, some 9, push 2, truth, add, "
                                              "truth, copy, some 15, push 3, truth, add")
        self.assert_expression("1 or 2 and 3", "push 1, truth, copy, some 15, push 2, truth, copy, zero 13, push 3, "
                                               "truth, mul, truth, add")

    def test_names(self):
        self.assert_code("let x = 1 let y = 2 say x + y",
                         "frame 2, tick 0, push 1, store 0, tick 1, push 2, store 1, tick 2, load 0, load 1, add, say, "
                         "done")


class Statements(CodesTest):
    def test_the_empty_text(self):
        self.assert_code("", "frame 0, done")

    def test_row_col_and_say(self):
        for word in ("row", "col", "say"):
            self.assert_code(word + " 3", f"frame 0, tick 0, push 3, {word}, done")

    def test_stop(self):
        self.assert_code("stop", "frame 0, tick 0, stop, done")
        self.assert_code("stop stop", "frame 0, tick 0, stop, tick 1, stop, done")

    def test_let(self):
        self.assert_code("let x = 1 + 2", "frame 1, tick 0, push 1, push 2, add, store 0, done")
        self.assert_code("let x = 1 let x = x", "frame 1, tick 0, push 1, store 0, tick 1, load 0, store 0, done")

    def test_if(self):
        self.assert_code("if 1 { }", "frame 0, tick 0, push 1, zero 4, done")
        self.assert_code("if 1 { row 2 } col 3",
                         "frame 0, tick 0, push 1, zero 7, tick 1, push 2, row, tick 2, push 3, col, done")
        self.assert_code("if 1 { row 2 } else { }", "frame 0, tick 0, push 1, zero 7, tick 1, push 2, row, done")

    def test_if_with_else(self):
        self.assert_code("if 1 { row 2 } else { col 3 } say 4",
                         "frame 0, tick 0, push 1, zero 8, tick 1, push 2, row, jump 11, tick 2, push 3, col, "
                         "tick 3, push 4, say, done")
        self.assert_code("if 1 { } else { stop }", "frame 0, tick 0, push 1, zero 5, jump 7, tick 1, stop, done")

    def test_while(self):
        self.assert_code("while 1 { }", "frame 0, tick 0, push 1, zero 6, tick 0, jump 2, done")
        self.assert_code("stop while 1 + 2 { row 3 } say 4",
                         "frame 0, tick 0, stop, tick 1, push 1, push 2, add, zero 13, tick 2, push 3, row, tick 1, "
                         "jump 4, tick 3, push 4, say, done")

    def test_for(self):
        self.assert_code("for i = 1 to 2 { }",
                         "frame 3, tick 0, push 1, push 2, store 2, store 1, load 1, load 2, le, zero 18, load 1, "
                         "store 0, load 1, push 1, add, store 1, tick 0, jump 6, done")
        self.assert_code("say 5 for i = rows to -1 { row i } say 6",
                         "frame 3, tick 0, push 5, say, tick 1, rows, push 1, neg, store 2, store 1, "
                         "load 1, load 2, le, zero 25, load 1, store 0, tick 2, load 0, row, "
                         "load 1, push 1, add, store 1, tick 1, jump 10, tick 3, push 6, say, done")

    def test_do(self):
        self.assert_code("def f() { } do f()", "frame 0, tick 0, call 4, done, frame 0, back")
        self.assert_code("def f(a, b) { } do f(1 + 2, 3)",
                         "frame 0, tick 0, push 1, push 2, add, push 3, call 8, done, frame 2, store 1, store 0, back")

    def test_blocks_within_blocks(self):
        self.assert_code("while 1 { if 2 { while 3 { stop } } }",
                         "frame 0, tick 0, push 1, zero 16, tick 1, push 2, zero 14, tick 2, push 3, zero 14, tick 3, "
                         "stop, tick 2, jump 8, tick 0, jump 2, done")

    def test_numbers_of_statements(self):
        self.assert_code("def f() { stop if 1 { stop } } def g() { stop } if 1 { stop } else { stop } stop",
                         "frame 0, tick 4, push 1, zero 7, tick 5, stop, jump 9, tick 6, stop, tick 7, stop, done, "
                         "frame 0, tick 0, stop, tick 1, push 1, zero 20, tick 2, stop, back, "
                         "frame 0, tick 3, stop, back")


class Definitions(CodesTest):
    def test_orders_of_definitions(self):
        self.assert_code("def f() { row 1 }", "frame 0, done, frame 0, tick 0, push 1, row, back")
        self.assert_code("def f() { } def g() { }", "frame 0, done, frame 0, back, frame 0, back")

    def test_arguments(self):
        self.assert_code("def f(a, b, c) { say b }",
                         "frame 0, done, frame 3, store 2, store 1, store 0, tick 0, load 1, say, back")

    def test_calls_to_earlier_and_later_definitions(self):
        self.assert_code("def f() { do g() do f() } def g() { do f() } do g() do f()",
                         "frame 0, tick 3, call 12, tick 4, call 6, done, "
                         "frame 0, tick 0, call 12, tick 1, call 6, back, frame 0, tick 2, call 6, back")

    def test_numbers_begin_with_the_definitions(self):
        self.assert_code("def f() { stop } stop", "frame 0, tick 1, stop, done, frame 0, tick 0, stop, back")


class Slots(CodesTest):
    def test_names_in_the_order_in_which_the_text_first_sets_them(self):
        self.assert_code("let b = 1 let a = b let b = a",
                         "frame 2, tick 0, push 1, store 0, tick 1, load 0, store 1, tick 2, load 1, store 0, done")
        self.assert_code("if 1 { let z = 1 } else { let y = 2 } let x = 3",
                         "frame 3, tick 0, push 1, zero 8, tick 1, push 1, store 0, jump 11, tick 2, push 2, store 1, "
                         "tick 3, push 3, store 2, done")

    def test_arguments_come_first(self):
        self.assert_code("def f(b, a) { let c = a let a = b }",
                         "frame 0, done, frame 3, store 1, store 0, tick 0, load 1, store 2, tick 1, load 0, store 1, "
                         "back")

    def test_the_name_of_a_for_is_set_ahead_of_its_block(self):
        self.assert_code("for i = 1 to 2 { let x = i }",
                         "frame 4, tick 0, push 1, push 2, store 3, store 2, load 2, load 3, le, zero 21, load 2, "
                         "store 0, tick 1, load 0, store 1, load 2, push 1, add, store 2, tick 0, jump 6, done")

    def test_the_name_of_a_for_that_is_set_before(self):
        self.assert_code("let x = 1 let i = 2 for i = x to i { }",
                         "frame 4, tick 0, push 1, store 0, tick 1, push 2, store 1, tick 2, load 0, load 1, "
                         "store 3, store 2, load 2, load 3, le, zero 24, load 2, store 1, load 2, push 1, add, "
                         "store 2, tick 2, jump 12, done")

    def test_an_argument_that_a_for_sets(self):
        self.assert_code("def f(a) { for a = a to 1 { } }",
                         "frame 0, done, frame 3, store 0, tick 0, load 0, push 1, store 2, store 1, load 1, load 2, "
                         "le, zero 21, load 1, store 0, load 1, push 1, add, store 1, tick 0, jump 9, back")

    def test_two_slots_for_each_for_in_the_order_of_the_text(self):
        value = code("for i = 1 to 2 { for j = 3 to 4 { } } for i = 5 to 6 { }")
        self.assertEqual(value[0], ("frame", 8))
        stores = [number for word, number in value if word == "store"]
        self.assertEqual(stores, [3, 2, 0, 5, 4, 1, 4, 2, 7, 6, 0, 6])
        loads = [number for word, number in value if word == "load"]
        self.assertEqual(loads, [2, 3, 2, 4, 5, 4, 4, 2, 6, 7, 6, 6])

    def test_for_statements_within_one_another(self):
        self.assert_code("for i = 1 to 2 { for i = 3 to 4 { } }",
                         "frame 5, tick 0, push 1, push 2, store 2, store 1, "
                         "load 1, load 2, le, zero 35, load 1, store 0, "
                         "tick 1, push 3, push 4, store 4, store 3, "
                         "load 3, load 4, le, zero 29, load 3, store 0, load 3, push 1, add, store 3, tick 1, jump 17, "
                         "load 1, push 1, add, store 1, tick 0, jump 6, done")

    def test_for_statements_in_definitions(self):
        value = code("def f(a) { let x = a for i = 1 to 2 { } } for i = 1 to 2 { }")
        self.assertEqual([number for word, number in value if word == "frame"], [3, 5])
        self.assertEqual([number for word, number in value if word == "store"], [2, 1, 0, 1, 0, 1, 4, 3, 2, 3])

    def test_slots_are_counted_anew(self):
        self.assert_code("def f(x) { let y = x } def g() { let z = 1 } let y = 2",
                         "frame 1, tick 2, push 2, store 0, done, "
                         "frame 2, store 0, tick 0, load 0, store 1, back, frame 1, tick 1, push 1, store 0, back")

    def test_a_name_that_is_never_set(self):
        self.assert_code("stop say x", "frame 0, tick 0, stop, tick 1, load 0, say, done")
        self.assert_code("let a = 1 let b = 2 stop say x say y",
                         "frame 2, tick 0, push 1, store 0, tick 1, push 2, store 1, tick 2, stop, "
                         "tick 3, load 2, say, tick 4, load 2, say, done")
        self.assert_code("def f(a) { stop say x } let x = 1",
                         "frame 1, tick 2, push 1, store 0, done, frame 1, store 0, tick 0, stop, tick 1, load 1, say, "
                         "back")

    def test_a_name_that_is_never_set_beside_for_statements(self):
        value = code("for i = 1 to 2 { stop say x }")
        self.assertEqual(value[0], ("frame", 3))
        self.assertEqual(value[15:17], (("load", 1), ("say", 0)))

    def test_a_name_that_is_set_in_what_is_not_asked_alone(self):
        self.assert_code("stop say x let x = 1",
                         "frame 1, tick 0, stop, tick 1, load 0, say, tick 2, push 1, store 0, done")


class Orders(CodesTest):
    def test_orders(self):
        for text, number in (("", 2), ("stop", 4), ("say 1 + 2", 7), ("def f() { }", 4), ("for i = 1 to 2 { }", 19),
                             ("while 1 { }", 7)):
            self.assertEqual(orders(text), number)
            self.assertIs(type(orders(text)), int)

    def test_long_programs(self):
        self.assertEqual(orders("say 1 " * 16000), 48002)
        self.assertEqual(orders("say 1" + "+1" * 40000), 80005)
        self.assertIs(is_code(code("say 1 " * 16000)), True)
        self.assertIs(is_code(code("say 1" + "+1" * 40000)), False)

    def test_made_programs(self):
        for tree, text in made_programs(150):
            with self.subTest(text):
                value = code(text)
                self.assertIs(is_code(value), True)
                self.assertEqual(orders(text), len(value))
                self.assertEqual(len([word for word, number in value if word == "frame"]), 1 + len(tree[0]))
                self.assertEqual(read_code(write_code(value)), value)


class IsCode(CodesTest):
    def assert_is(self, expected, *values):
        for value in values:
            with self.subTest(repr(value)[:80]):
                self.assertIs(is_code(value), expected)
                if expected:
                    self.assertEqual(read_code(write_code(value)), value)
                else:
                    with self.assertRaises(BadCode):
                        write_code(value)

    def assert_order(self, expected, *pairs):
        """The pairs as the second order of a code of four orders, the third one of which is a frame."""
        for pair in pairs:
            self.assert_is(expected, (("frame", 0), pair, ("frame", 1), ("done", 0)))

    def test_values_of_every_kind(self):
        self.assert_is(False, None, 0, 1, True, False, "", "frame 0\ndone", (), [], {}, (1, 2), ("frame", "done"),
                       {"frame": 0, "done": 0}, (None, None), ((), ()), (("frame", 0), None))

    def test_lists_for_tuples(self):
        good = (("frame", 0), ("tick", 0), ("done", 0))
        self.assert_is(True, good)
        self.assert_is(False, list(good), (["frame", 0], ("tick", 0), ("done", 0)),
                       (("frame", 0), ["tick", 0], ("done", 0)), (("frame", 0), ("tick", 0), ["done", 0]),
                       [["frame", 0], ["done", 0]])

    def test_what_is_no_pair(self):
        self.assert_order(False, (), ("copy",), ("copy", 0, 0), "copy", 0, None, True, ("push", 1, 2), "ab", {}, [],
                          {"copy": 0})

    def test_words_that_there_are_not(self):
        self.assert_order(False, ("Copy", 0), ("copy ", 0), ("", 0), ("pop", 0), ("+", 0), ("and", 0), ("or", 0),
                          ("if", 0), ("let", 0), ("while", 0), ("for", 0), ("do", 0), ("num", 1), ("name", 0),
                          (0, 0), (None, 0), (True, 0), ((), 0), (("copy",), 0), ([], 0), ({}, 0), (0, "copy"))

    def test_numbers_that_are_none(self):
        for word in PLAIN + NUMBERED:
            for value in (True, False, None, "0", (), (0,), [], {}):
                self.assert_order(False, (word, value))

    def test_words_without_numbers(self):
        self.assertEqual(len(PLAIN), 22)
        for word in PLAIN:
            self.assert_order(True, (word, 0))
            self.assert_order(False, (word, 1), (word, -1), (word, 2), (word, MOST))

    def test_push(self):
        self.assert_order(True, ("push", 0), ("push", 1), ("push", -1), ("push", MOST), ("push", -MOST))
        self.assert_order(False, ("push", MOST + 1), ("push", -MOST - 1), ("push", 10 ** 30))

    def test_counts(self):
        for word in COUNTED:
            self.assert_order(True, (word, 0), (word, 1), (word, 4), (word, 50000))
            self.assert_order(False, (word, -1), (word, 50001), (word, MOST))

    def test_places(self):
        for word in ("jump", "zero", "some"):
            self.assert_order(True, (word, 0), (word, 1), (word, 2), (word, 3))
            self.assert_order(False, (word, -1), (word, 4), (word, -4), (word, MOST))

    def test_places_of_calls(self):
        self.assert_order(True, ("call", 0), ("call", 2))
        self.assert_order(False, ("call", 1), ("call", 3), ("call", -1), ("call", -2), ("call", 4), ("call", MOST))

    def test_the_first_order(self):
        for word in PLAIN + NUMBERED:
            self.assert_is(word == "frame", ((word, 0), ("done", 0)))
        self.assert_is(True, (("frame", 50000), ("done", 0)))
        self.assert_is(False, (("frame", 50001), ("done", 0)), (("frame", -1), ("done", 0)))

    def test_the_last_order(self):
        for word in PLAIN + NUMBERED:
            self.assert_is(word in ("done", "stop", "back", "jump"), (("frame", 0), (word, 0)))
        self.assert_is(True, (("frame", 0), ("jump", 1)))
        self.assert_is(False, (("frame", 0), ("jump", 2)), (("frame", 0), ("done", 1)))

    def test_how_many_orders(self):
        self.assert_is(False, (("frame", 0),), (("done", 0),), (("jump", 0),))
        self.assert_is(True, (("frame", 0), ("done", 0)))
        most = (("frame", 0),) + (("eq", 0),) * 49998 + (("jump", 49999),)
        self.assertIs(is_code(most), True)
        self.assertIs(is_code(most[:2] + most[1:]), False)
        self.assertEqual(write_code(most), "frame 0" + "\neq" * 49998 + "\njump 49999")
        with self.assertRaises(BadCode):
            write_code(most[:2] + most[1:])

    def test_arguments_are_not_modified(self):
        value = [["frame", 0], ["done", 0]]
        is_code(value)
        is_code((value[0], value))
        self.assertEqual(value, [["frame", 0], ["done", 0]])


class WriteCode(CodesTest):
    def test_each_order(self):
        for word in PLAIN:
            self.assertEqual(write_code((("frame", 0), (word, 0), ("done", 0))), "frame 0\n" + word + "\ndone")
        for word in NUMBERED:
            self.assertEqual(write_code((("frame", 0), (word, 0), ("done", 0))), "frame 0\n" + word + " 0\ndone")
        self.assertEqual(write_code((("frame", 12), ("push", -MOST), ("push", MOST), ("jump", 3))),
                         "frame 12\npush -1000000000\npush 1000000000\njump 3")

    def test_no_code(self):
        for value in OTHERS + ((("frame", 0),), (("frame", 0), ("row", 1), ("done", 0)), [("frame", 0), ("done", 0)]):
            with self.subTest(repr(value)):
                with self.assertRaises(BadCode):
                    write_code(value)


class ReadCode(CodesTest):
    def assert_invalid(self, marked):
        text, (place,) = unmarked(marked)
        with self.subTest(text):
            with self.assertRaises(InvalidText) as caught:
                read_code(text)
            self.assertEqual(caught.exception.place, place)
            self.assertIs(type(caught.exception.place), int)

    def assert_line(self, line):
        self.assert_invalid("frame 0\n@" + line + "\ndone")

    def assert_bad(self, text):
        with self.subTest(text):
            with self.assertRaises(BadCode):
                read_code(text)

    def test_each_order(self):
        for word in PLAIN:
            self.assertEqual(read_code("frame 0\n" + word + "\ndone"), (("frame", 0), (word, 0), ("done", 0)))
        for word in NUMBERED:
            self.assertEqual(read_code("frame 0\n" + word + " 0\ndone"), (("frame", 0), (word, 0), ("done", 0)))
            if word != "call":
                self.assertEqual(read_code("frame 0\n" + word + " 2\ndone")[1], (word, 2))
        self.assertEqual(read_code("frame 50000\npush -1000000000\npush 1000000000\njump 3"),
                         (("frame", 50000), ("push", -MOST), ("push", MOST), ("jump", 3)))

    def test_words_are_read_as_they_are_written(self):
        for word in PLAIN:
            for line in (word + " 0", word + " 1", word + " ", " " + word, word + "x", word.upper(), word + word,
                         word + "\t", word + " -0"):
                self.assert_line(line)
        for word in NUMBERED:
            for line in (word, word + " ", word + "  1", word + " 1 ", " " + word + " 1", word + "1", word + " x",
                         word + " 1 2", word + "\t1", word.upper() + " 1", word + "s 1", word + " 1\r"):
                self.assert_line(line)
        for line in ("pus 1", "don", "ro", "nothing", "nothing 1", "1", "-", "+", "0 push", "push,1"):
            self.assert_line(line)

    def test_numbers_are_read_as_they_are_written(self):
        for word in NUMBERED:
            for number in ("00", "01", "-0", "-01", "+1", "--1", "- 1", "-", "1-", "1.0", "1e3", "1_0", "x", "",
                           "12345678901", "-12345678901", "00000000001", "\u0661", "\u00b2"):
                self.assert_line(word + " " + number)

    def test_empty_lines(self):
        self.assert_invalid("@")
        self.assert_invalid("@\n")
        self.assert_invalid("@\nframe 0\ndone")
        self.assert_invalid("frame 0\n@\ndone")
        self.assert_invalid("frame 0\ndone\n@")
        self.assert_invalid("frame 0\ndone\n@\n")
        self.assert_line(" ")

    def test_the_first_line_that_is_no_order(self):
        self.assert_invalid("@frames 0\ndone 1")
        self.assert_invalid("frame 0\ncopy\n@row 1\ncol 1")
        self.assert_invalid("frame 0\npush 1234567890\n@pushh 1\ndone")
        self.assert_invalid("@ frame 0\ndone")
        self.assert_invalid("frame 0\n@done ")

    def test_lines_come_ahead_of_codes(self):
        self.assert_invalid("done\n@x")
        self.assert_invalid("push 9999999999\n@x")

    def test_long_texts(self):
        for text in ("frame 0\n" + "eq\n" * 33331, "x" * 100001, "\n" * 100001):
            self.assertGreater(len(text), 100000)
            with self.assertRaises(InvalidText) as caught:
                read_code(text)
            self.assertEqual(caught.exception.place, 100001)
        longest = "frame 0\n" + "eq\n" * 33329 + "stop"
        self.assertEqual(len(longest), 99999)
        self.assertEqual(len(read_code(longest)), 33331)
        self.assertEqual(len(read_code("frame 10\n" + "eq\n" * 33329 + "stop")), 33331)
        self.assert_invalid("@" + "x" * 100000)

    def test_no_string(self):
        for value in OTHERS + ((("frame", 0), ("done", 0)),):
            with self.subTest(repr(value)):
                with self.assertRaises(NotText):
                    read_code(value)

    def test_no_code(self):
        for text in ("done", "frame 0", "stop", "done\nframe 0", "push 1\ndone", "frame 0\nrow", "frame 50001\ndone",
                     "frame -1\ndone", "frame 0\nload 50001\ndone", "frame 0\nload -1\ndone",
                     "frame 0\npush 1000000001\ndone", "frame 0\npush -1000000001\ndone",
                     "frame 0\npush 9999999999\ndone", "frame 0\njump 3\ndone", "frame 0\njump -1\ndone",
                     "frame 0\ncall 1\ndone", "frame 0\ncall 3\ndone", "frame 0\njump 2", "frame 9999999999\ndone",
                     "frame 0\ntick -1\ndone", "frame 0\nzero 9\ndone", "frame 0\nsome 9\ndone"):
            self.assert_bad(text)

    def test_what_is_written_is_read(self):
        for tree, text in made_programs(100):
            value = code(text)
            self.assertEqual(read_code(write_code(value)), value)
            self.assertEqual(write_code(read_code(write_code(value))), write_code(value))


if __name__ == "__main__":
    unittest.main()
