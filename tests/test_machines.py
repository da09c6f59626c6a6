"""Points 10 (runs of codes) and 11, and of point 1 what holds for values: the heading strokes/machines.py."""

import unittest

import strokes.machines
from strokes.codes import code
from strokes.errors import BadCode, BadNumber, BadPicture
from strokes.machines import execute, orders_done, round_of, statements_run
from strokes.runs import run, ticks_of
from tests.machine import played
from tests.programs import (
    NO_PICTURES, NO_TICKS, OTHERS, assert_error, assert_text_errors, made_programs, orders_of,
)

FUNCTIONS = (execute, orders_done, round_of, statements_run)
SMALL = ("#.", "..", ".#")
MOST = 10 ** 9
CODE = (("frame", 0), ("tick", 0), ("push", 2), ("col", 0), ("done", 0))


def code_of(lines):
    """Return the code of orders that stand behind a frame of three slots."""
    return orders_of("frame 3, " + lines + ", done")


class MachinesTest(unittest.TestCase):
    maxDiff = None

    def assert_run(self, value, picture, lines, said, end, done, start=SMALL, ticks=100):
        with self.subTest(value[:30], ticks=ticks):
            answer = execute(value, start, ticks)
            self.assertEqual(answer, (picture, tuple(lines), tuple(said), end))
            self.assertEqual([type(part) for part in answer], [tuple, tuple, tuple, str])
            for number in answer[1] + answer[2]:
                self.assertIs(type(number), int)
            self.assertEqual(orders_done(value, start, ticks), done)
            self.assertIs(type(orders_done(value, start, ticks)), int)

    def assert_says(self, lines, *numbers):
        """Orders behind a frame of three slots; what they leave on the stack is said from the uppermost on."""
        value = code_of(lines + ", say" * len(numbers))
        self.assert_run(value, SMALL, (), numbers, "done", len(value))

    def assert_ends(self, lines, end, done, ticks=100, said=()):
        """Orders behind a frame of three slots that end a run; the frame is one of those done."""
        value = code_of(lines)
        with self.subTest(lines, ticks=ticks):
            answer = execute(value, SMALL, ticks)
            self.assertEqual(answer[3], end)
            if end != "broken":
                self.assertEqual(answer[:3], (SMALL, (), said))
            self.assertEqual(orders_done(value, SMALL, ticks), done)


class TheInterface(MachinesTest):
    def test_the_functions_are_defined_in_the_file(self):
        for function in FUNCTIONS:
            self.assertEqual(function.__module__, "strokes.machines")
            self.assertIs(getattr(strokes.machines, function.__name__), function)

    def test_the_examples(self):
        orders = (("frame", 0), ("tick", 0), ("push", 2), ("col", 0), ("done", 0))
        self.assertEqual(execute(orders, ("##",), 5), (("#.",), (2,), (), "done"))
        self.assertEqual(orders_done(orders, ("##",), 5), 5)
        self.assertEqual(round_of("while 1 { row 1 col 1 }", ("##",), 100), (2, 3))
        self.assertEqual(statements_run("if black(1, 1) { row 1 } else { col 1 }", ("#",), 9), [0, 1])

    def test_the_arguments_by_name(self):
        self.assertEqual(execute(value=CODE, picture=("##",), ticks=5)[3], "done")
        self.assertEqual(orders_done(value=CODE, picture=("##",), ticks=5), 5)
        self.assertIsNone(round_of(text="", picture=("##",), ticks=5))
        self.assertEqual(statements_run(text="", picture=("##",), ticks=5), [])

    def test_equal_arguments_have_equal_answers_and_new_lists(self):
        first = statements_run("row 1", ("#",), 5)
        first.append(7)
        self.assertEqual(statements_run("row 1", ("#",), 5), [0])


class Errors(MachinesTest):
    def test_codes(self):
        wrong = OTHERS + ("frame 0\ndone", CODE[:4], list(CODE), (("done", 0),), CODE[:4] + (["done", 0],),
                          CODE[:4] + (("done", False),), CODE[1:], (("frame", 0), ("jump", 2)),
                          (("frame", 50001), ("done", 0)), (("frame", 0),) + (("tick", 0),) * 49999 + (("done", 0),))
        for function in (execute, orders_done):
            for value in wrong:
                for picture, ticks in ((SMALL, 5), (None, 5), (SMALL, None), (None, None)):
                    assert_error(self, BadCode, {}, function, value, picture, ticks)

    def test_a_place_behind_the_last_order_is_never_come_to(self):
        for word in ("push", "call", "zero", "some", "tick", "frame", "row", "say"):
            value = CODE[:4] + ((word, 0),)
            assert_error(self, BadCode, {}, execute, value, SMALL, 5)

    def test_texts(self):
        for function in (round_of, statements_run):
            for behind in ((SMALL, 5), (None, 5), (SMALL, None)):
                assert_text_errors(self, function, (), behind)

    def test_pictures(self):
        for function, first in ((execute, CODE), (orders_done, CODE), (round_of, ""), (statements_run, "")):
            for picture in NO_PICTURES:
                for ticks in (0, -1, None):
                    assert_error(self, BadPicture, {}, function, first, picture, ticks)

    def test_ticks(self):
        for function, first in ((execute, CODE), (orders_done, CODE), (round_of, ""), (statements_run, "")):
            for ticks in NO_TICKS:
                assert_error(self, BadNumber, {}, function, first, SMALL, ticks)
            function(first, SMALL, 0)
            function(first, SMALL, 20000)


class Orders(MachinesTest):
    def test_orders_that_lay(self):
        self.assert_says("push 7", 7)
        self.assert_says("push -1000000000", -MOST)
        self.assert_says("push 1, push 2, push 3", 3, 2, 1)
        self.assert_says("push 5, copy", 5, 5)
        self.assert_says("push 4, push 5, copy", 5, 5, 4)
        self.assert_says("rows", 3)
        self.assert_says("cols", 2)

    def test_slots(self):
        self.assert_says("push 5, store 0, push 6, store 2, load 0, load 2, load 0", 5, 6, 5)
        self.assert_says("push 5, store 1, push 6, store 1, load 1", 6)

    def test_orders_of_two_numbers(self):
        for first, word, second, made in (
            (7, "add", -9, -2), (7, "sub", 9, -2), (7, "mul", -9, -63), (7, "div", 2, 3), (-7, "div", 2, -4),
            (7, "div", -2, -4), (-7, "div", -2, 3), (7, "mod", 3, 1), (-7, "mod", 3, 2), (7, "mod", -3, -2),
            (-7, "mod", -3, -1), (1, "lt", 2, 1), (2, "lt", 2, 0), (3, "lt", 2, 0), (1, "le", 2, 1), (2, "le", 2, 1),
            (3, "le", 2, 0), (1, "eq", 2, 0), (2, "eq", 2, 1), (1, "ne", 2, 1), (2, "ne", 2, 0),
            (MOST, "add", 0, MOST), (-MOST, "sub", 0, -MOST), (-MOST, "mul", -1, MOST), (MOST, "div", -1, -MOST),
        ):
            self.assert_says(f"push {first}, push {second}, {word}", made)
            self.assert_says(f"push 8, push {first}, push {second}, {word}", made, 8)

    def test_orders_of_one_number(self):
        for word, number, made in (
            ("neg", 7, -7), ("neg", 0, 0), ("neg", -MOST, MOST), ("not", 0, 1), ("not", 1, 0), ("not", -7, 0),
            ("truth", 0, 0), ("truth", 1, 1), ("truth", 7, 1), ("truth", -7, 1),
        ):
            self.assert_says(f"push {number}, {word}", made)
            self.assert_says(f"push 8, push {number}, {word}", made, 8)

    def test_black(self):
        for row, column, made in ((1, 1, 1), (1, 2, 0), (2, 1, 0), (2, 2, 0), (3, 1, 0), (3, 2, 1)):
            self.assert_says(f"push {row}, push {column}, black", made)

    def test_painting_and_saying(self):
        self.assert_run(code_of("push 2, row"), ("#.", "##", ".#"), (1,), (), "done", 4)
        self.assert_run(code_of("push 2, col"), ("#.", "..", ".."), (4,), (), "done", 4)
        self.assert_run(code_of("push 1, row, push 1, col, push 1, row"), ("##", "..", ".#"), (0, 3, 0), (), "done", 8)
        self.assert_run(code_of("push 2, say, push 2, say"), SMALL, (), (2, 2), "done", 6)

    def test_jumps(self):
        self.assert_run(code_of("jump 3, stop, push 1, say"), SMALL, (), (1,), "done", 5)
        for number, word, said in ((0, "zero", ()), (1, "zero", (9,)), (-1, "zero", (9,)), (0, "some", (9,)),
                                   (1, "some", ()), (-1, "some", ())):
            value = code_of(f"push {number}, {word} 5, push 9, say")
            self.assert_run(value, SMALL, (), said, "done", 6 if said else 4)
        # Backwards, down from 3.
        self.assert_run(code_of("push 3, copy, say, push 1, sub, copy, some 2"), SMALL, (), (3, 2, 1), "done", 21)
        self.assert_run(code_of("push -2, copy, say, push 1, add, copy, zero 9, jump 2"), SMALL, (), (-2, -1), "done",
                        16)

    def test_ticks(self):
        value = code_of("tick 50000, tick 7, tick 0")
        self.assert_run(value, SMALL, (), (), "done", 5, ticks=3)
        self.assert_run(value, SMALL, (), (), "limit", 4, ticks=2)
        self.assert_run(value, SMALL, (), (), "limit", 3, ticks=1)
        self.assert_run(value, SMALL, (), (), "limit", 2, ticks=0)

    def test_stop_and_done(self):
        self.assert_run(orders_of("frame 0, stop"), SMALL, (), (), "stopped", 2)
        self.assert_run(orders_of("frame 0, done"), SMALL, (), (), "done", 2, ticks=0)
        self.assert_run(orders_of("frame 0, push 1, done, stop"), SMALL, (), (), "done", 3)
        self.assert_run(orders_of("frame 0, jump 3, done, stop"), SMALL, (), (), "stopped", 3)

    def test_calls_keep_the_next_place_and_the_slots(self):
        value = orders_of("frame 2, push 5, store 0, push 6, store 1, call 9, load 0, say, done, "
                          "frame 1, push 8, store 0, load 0, say, back")
        self.assert_run(value, SMALL, (), (8, 5), "done", 15)
        # Numbers on the stack go over into the call and back out of it.
        value = orders_of("frame 0, push 5, call 4, done, frame 1, store 0, load 0, load 0, add, say, push 4, back")
        self.assert_run(value, SMALL, (), (10,), "done", 12)

    def test_calls_within_calls(self):
        # Each call says its number and calls the next one, up to the last, and says it again when that came back.
        value = orders_of("frame 0, push 3, call 4, done, "
                          "frame 1, store 0, load 0, say, load 0, zero 14, load 0, push 1, sub, call 4, "
                          "load 0, say, back")
        # (zero leads behind the call, whose place is 13.)
        self.assert_run(value, SMALL, (), (3, 2, 1, 0, 0, 1, 2, 3), "done", 4 + 3 * 13 + 9)

    def test_frames_within_a_call(self):
        # A frame makes new slots where it stands; the slots below are those that were kept.
        value = orders_of("frame 1, push 5, store 0, call 7, load 0, say, done, "
                          "frame 1, push 6, store 0, frame 2, push 7, store 1, load 1, say, back")
        self.assert_run(value, SMALL, (), (7, 5), "done", 16)
        self.assert_ends("push 5, store 0, frame 3, load 0", "broken", 5)

    def test_a_call_may_lead_to_the_first_order(self):
        value = orders_of("frame 1, push 1, say, call 0, done")
        self.assert_run(value, SMALL, (), (1,) * 31, "depth", 31 * 4)

    def test_pictures_of_all_sizes(self):
        for picture in (("#",), ("." * 20,), ("#",) * 20, ("." * 20,) * 20):
            value = code_of("rows, row, cols, col, rows, cols, black")
            answer = execute(value, picture, 0)
            lines = len(picture) - 1, len(picture) + len(picture[0]) - 1
            self.assertEqual(answer[1:], (lines, (), "done"))


class Ends(MachinesTest):
    def test_number(self):
        for first, word, second in ((MOST, "add", 1), (-MOST, "add", -1), (-MOST, "sub", 1), (MOST, "sub", -1),
                                    (MOST, "mul", 2), (MOST, "mul", -2), (100000, "mul", 10001)):
            self.assert_ends(f"push {first}, push {second}, {word}", "number", 4)

    def test_divide(self):
        for word in ("div", "mod"):
            for first in (0, 5, -5):
                self.assert_ends(f"push {first}, push 0, {word}", "divide", 4)

    def test_range(self):
        for row, column in ((0, 1), (4, 1), (-1, 1), (1, 0), (1, 3), (1, -1), (MOST, 1)):
            self.assert_ends(f"push {row}, push {column}, black", "range", 4)
        for number in (0, 4, -1, -3):
            self.assert_ends(f"push {number}, row", "range", 3)
        for number in (0, 3, -1, -2):
            self.assert_ends(f"push {number}, col", "range", 3)

    def test_depth(self):
        # A call more than the 30 that have not come back.
        lines = "push {}, call 5, stop, stop, frame 1, store 0, load 0, zero 13, load 0, push 1, sub, call 5, back"
        self.assert_ends(lines.format(29), "stopped", 3 + 29 * 8 + 5 + 29 + 1)
        self.assert_ends(lines.format(30), "depth", 3 + 30 * 8)

    def test_calls_that_came_back_do_not_count(self):
        value = orders_of("frame 1, push 40, store 0, call 11, load 0, push 1, sub, store 0, load 0, some 3, done, "
                          "frame 0, back")
        self.assert_run(value, SMALL, (), (), "done", 3 + 40 * 9 + 1)

    def test_limit(self):
        value = orders_of("frame 0, tick 0, push 1, say, jump 1")
        self.assert_run(value, SMALL, (), (1,) * 7, "limit", 1 + 7 * 4 + 1, ticks=7)

    def test_the_greatest_number_of_ticks(self):
        value = orders_of("frame 0, tick 0, push 1, row, tick 1, push 1, col, jump 1")
        answer = execute(value, SMALL, 20000)
        self.assertEqual(answer, ((".#", "..", ".#"), (0, 3) * 10000, (), "limit"))
        self.assertEqual(orders_done(value, SMALL, 20000), 2 + 70000)

    def test_a_number_taken_of_an_empty_stack(self):
        for word in ("store 0", "copy", "black", "add", "sub", "mul", "div", "mod", "lt", "le", "eq", "ne", "neg",
                     "not", "truth", "row", "col", "say", "zero 2", "some 2"):
            self.assert_ends(word, "broken", 2)
            # A call that came back took nothing off, either.
            value = orders_of(f"frame 1, push 1, say, {word}, done")
            self.assertEqual(execute(value, SMALL, 5)[3], "broken")
            self.assertEqual(orders_done(value, SMALL, 5), 4)
        for word in ("black", "add", "sub", "mul", "div", "mod", "lt", "le", "eq", "ne"):
            self.assert_ends("push 1, " + word, "broken", 3)

    def test_slots_that_there_are_not_or_that_have_no_number(self):
        for number in (0, 1, 2, 3, 50000):
            self.assert_ends(f"load {number}", "broken", 2)
            if number > 2:
                self.assert_ends(f"push 1, store {number}", "broken", 3)
        self.assert_ends("push 1, store 1, load 0", "broken", 4)
        self.assert_ends("push 1, store 1, load 2", "broken", 4)
        # The slots of a call are its own.
        value = orders_of("frame 2, push 1, store 0, call 5, done, frame 1, load 0, back")
        self.assertEqual(execute(value, SMALL, 5)[3], "broken")
        self.assertEqual(orders_done(value, SMALL, 5), 6)
        value = orders_of("frame 1, call 4, load 1, done, frame 2, push 1, store 1, back")
        self.assertEqual(execute(value, SMALL, 5)[3], "broken")
        self.assertEqual(orders_done(value, SMALL, 5), 7)

    def test_back_without_a_call(self):
        self.assert_ends("back", "broken", 2)
        value = orders_of("frame 0, call 3, back, frame 0, back")
        self.assertEqual(execute(value, SMALL, 5)[3], "broken")
        self.assertEqual(orders_done(value, SMALL, 5), 5)

    def idle_code(self, ahead, many):
        """Return a code that does so many orders ahead, all without a tick behind the first ones, then a tick."""
        start = len(ahead)
        turn = 33000
        orders = ahead + [("push", 3), ("store", 0)]
        again = len(orders)
        orders += [("jump", again + at + 1) for at in range(turn - 6)]
        orders += [("load", 0), ("push", 1), ("sub", 0), ("store", 0), ("load", 0), ("some", again)]
        rest = many - (2 + 3 * turn)
        if start == 1:
            rest -= 1
        place = len(orders)
        orders += [("jump", place + at + 1) for at in range(rest)]
        return tuple(orders + [("tick", 0), ("push", 8), ("say", 0), ("stop", 0)])

    def test_orders_without_a_tick_at_the_beginning(self):
        self.assert_run(self.idle_code([("frame", 1)], 99999), SMALL, (), (8,), "stopped", 100003)
        self.assert_run(self.idle_code([("frame", 1)], 99999), SMALL, (), (), "limit", 100000, ticks=0)
        for many in (100000, 100001):
            value = self.idle_code([("frame", 1)], many)
            self.assertEqual(execute(value, SMALL, 5)[3], "broken")
            self.assertEqual(orders_done(value, SMALL, 5), 100000)

    def test_orders_without_a_tick_behind_one(self):
        ahead = [("frame", 1), ("tick", 0)]
        self.assert_run(self.idle_code(ahead, 99999), SMALL, (), (8,), "stopped", 2 + 100003)
        value = self.idle_code(ahead, 100000)
        self.assertEqual(execute(value, SMALL, 5)[3], "broken")
        self.assertEqual(orders_done(value, SMALL, 5), 100002)

    def test_jumps_round_and_round(self):
        for lines in ("frame 0, jump 0", "frame 0, jump 1", "frame 0, jump 2, jump 1",
                      "frame 50, push 1, some 0, stop"):
            self.assertEqual(execute(orders_of(lines), SMALL, 5)[3], "broken")
            self.assertEqual(orders_done(orders_of(lines), SMALL, 5), 100000)

    def test_calls_and_loops_without_a_tick(self):
        value = orders_of("frame 0, call 3, jump 1, frame 0, back")
        self.assertEqual(execute(value, SMALL, 5)[3], "broken")
        self.assertEqual(orders_done(value, SMALL, 5), 100000)

    def test_a_stack_that_grows(self):
        value = orders_of("frame 0, tick 0, push 1, push 2, jump 1")
        self.assert_run(value, SMALL, (), (), "limit", 2 + 4 * 20000, ticks=20000)


class RunsOfPrograms(MachinesTest):
    def test_programs_and_their_codes_have_the_same_runs(self):
        pictures = (SMALL, ("#",), ("....", "####"), ("#.#", ".#.", "#.#"))
        ends = {}
        for start, (tree, text) in enumerate(made_programs(400)):
            picture = pictures[start % 4]
            value = code(text)
            for ticks in (0, 1, 2, 7, 30, 200, 2000):
                with self.subTest(text, picture=picture, ticks=ticks):
                    answer = execute(value, picture, ticks)
                    self.assertEqual(answer, run(text, picture, ticks))
                    plain, plainly = played(text, picture, ticks)
                    self.assertEqual(answer, plainly)
                    self.assertEqual(orders_done(value, picture, ticks), plain.count)
                    ends[answer[3]] = ends.get(answer[3], 0) + 1
        self.assertEqual(sorted(ends), ["depth", "divide", "done", "limit", "range", "stopped"])

    def test_long_runs(self):
        for text, end in (
            ("for i = 1 to 9999 { row 1 + i mod 3 }", "done"),
            ("for i = 1 to 10000 { row 1 + i mod 3 }", "limit"), ("while 1 { col 1 row 2 }", "limit"),
            ("let i = 0 while i < 4000 { let i = i + 1 say i * i }", "done"),
            ("let i = 2 while i { let i = i * i }", "number"),
            ("def f(n) { if n { do f(n - 1) } } for i = 1 to 200 { do f(25) } stop", "stopped"),
        ):
            with self.subTest(text):
                answer = run(text, SMALL, 20000)
                self.assertEqual(execute(code(text), SMALL, 20000), answer)
                self.assertEqual(answer[3], end)

    def test_arguments_stay_as_they_are(self):
        value = code("for i = 1 to rows { row i }")
        kept = tuple(tuple(order) for order in value)
        execute(value, SMALL, 50)
        self.assertEqual(value, kept)
        self.assertEqual(SMALL, ("#.", "..", ".#"))


class Rounds(MachinesTest):
    def assert_round(self, text, expected, start=SMALL, ticks=1000):
        with self.subTest(text, ticks=ticks):
            answer = round_of(text, start, ticks)
            self.assertEqual(answer, expected)
            if answer is not None:
                self.assertEqual([type(answer)] + [type(number) for number in answer], [tuple, int, int])
                # It is found as soon as there are the ticks for it, the order that finds none left included.
                most = sum(expected)
                self.assertEqual(round_of(text, start, most), expected)
                self.assertIsNone(round_of(text, start, most - 1))
                self.assertEqual(round_of(text, start, most + 1), expected)

    def test_runs_that_end(self):
        for text in ("", "row 1", "stop", "while 0 { }", "say 1 / 0", "row 9", "def f() { do f() } do f()",
                     "for i = 1 to 20 { row 1 }", "let i = 9 while i { let i = i - 1 }", "while black(1, 1) { col 1 }"):
            self.assert_round(text, None)

    def test_rounds_at_once(self):
        self.assert_round("while 1 { }", (1, 1))
        self.assert_round("while 2 { say 3 }", (1, 2))
        self.assert_round("while 1 { col 1 }", (1, 2), start=("..",))
        self.assert_round("while 1 { row 1 col 1 }", (1, 3), start=(".",) * 2)

    def test_the_tick_order_at_which_a_while_begins_is_another_place(self):
        self.assert_round("let i = 1 while i { }", (2, 1))

    def test_rounds_behind_some_ticks(self):
        self.assert_round("row 1 row 2 while 1 { }", (3, 1))
        self.assert_round("while 1 { row 1 col 1 }", (2, 3), start=("##",))
        self.assert_round("let i = 5 while 1 { if i { let i = i - 1 } }", (16, 2))
        self.assert_round("while 1 { if black(1, 1) { col 1 } else { row 1 } }", (6, 6))

    def test_numbers_in_slots_tell_states_apart(self):
        self.assert_round("let i = 0 while 1 { let i = (i + 1) mod 7 }", (2, 14))
        self.assert_round("let i = 0 while 1 { let i = i + 1 }", None)
        self.assert_round("let i = 0 while 1 { let i = i + 1 if 10 < i { let i = 5 } }", (16, 19))
        # A slot without a number is unlike one with a number.
        self.assert_round("while 1 { if 0 = rows { } let x = 1 }", (3, 3))

    def test_numbers_of_a_for(self):
        self.assert_round("while 1 { for i = 1 to 3 { } }", (2, 5))
        self.assert_round("for i = 1 to 20 { while 1 { } }", (2, 1))
        self.assert_round("for i = 1 to 20 { if i = 7 { while 1 { } } }", (15, 1))

    def test_the_picture_tells_states_apart(self):
        self.assert_round("while 1 { row 1 row 2 col 1 col 2 }", (3, 5), start=("##", "##"))
        self.assert_round("let i = 1 while 1 { if black(1, i) { col i let i = 1 + i mod cols } }", (9, 2),
                          start=("##",))

    def test_calls_tell_states_apart(self):
        # The same statement is come to from two places.
        self.assert_round("def f() { row 1 } while 1 { do f() do f() }", (1, 5), start=("#",))
        # The slots below are unlike though those above are alike.
        self.assert_round("def f() { row 1 } let i = 0 while 1 { let i = 1 - i do f() }", (2, 8), start=("#",))
        self.assert_round("def f() { while 1 { } } do f()", (2, 1))
        self.assert_round("def f() { do f() } do f()", None)

    def test_numbers_on_the_stack_below_a_call_are_none(self):
        self.assert_round("def f(n) { if n { do f(n - 1) } else { while 1 { } } } do f(5)", (13, 1))

    def test_few_ticks(self):
        for ticks in range(8):
            self.assertEqual(round_of("while 1 { row 1 col 1 }", ("##",), ticks), (2, 3) if ticks > 4 else None)
        self.assertIsNone(round_of("while 1 { }", SMALL, 0))
        self.assertIsNone(round_of("while 1 { }", SMALL, 1))

    def test_a_long_round(self):
        text = "let i = 0 while 1 { let i = (i + 1) mod 9000 }"
        self.assertEqual(round_of(text, SMALL, 20000), (2, 18000))
        self.assertIsNone(round_of(text, SMALL, 18001))

    def test_against_all_states_of_a_plain_machine(self):
        found = 0
        for tree, text in made_programs(300):
            for ticks in (0, 5, 40, 300):
                plain = played(text, SMALL, ticks)[0]
                expected = None
                seen = {}
                for used, state in enumerate(plain.states):
                    if state in seen:
                        expected = (seen[state], used - seen[state])
                        break
                    seen[state] = used
                with self.subTest(text, ticks=ticks):
                    self.assertEqual(round_of(text, SMALL, ticks), expected)
                found += expected is not None
        self.assertGreater(found, 30)


class StatementsRun(MachinesTest):
    def assert_begun(self, text, numbers, start=SMALL, ticks=1000):
        with self.subTest(text, ticks=ticks):
            answer = statements_run(text, start, ticks)
            self.assertEqual(answer, numbers)
            self.assertEqual([type(answer)] + [type(number) for number in answer], [list] + [int] * len(numbers))

    def test_blocks(self):
        self.assert_begun("", [])
        self.assert_begun("row 1 say 2 col 1", [0, 1, 2])
        self.assert_begun("while black(1, 1) { col 1 say 1 }", [0, 1, 2])
        self.assert_begun("while black(1, 2) { col 2 } say 1", [0, 2])
        self.assert_begun("for i = 1 to 0 { row 1 } say 1", [0, 2])
        self.assert_begun("for i = 1 to 2 { row 1 if i = 2 { say 1 } }", [0, 1, 2, 3])

    def test_both_ways_of_an_if(self):
        self.assert_begun("if black(1, 1) { row 1 row 2 } else { col 1 } say 1", [0, 1, 2, 4])
        self.assert_begun("if black(2, 1) { row 1 row 2 } else { col 1 } say 1", [0, 3, 4])
        self.assert_begun("for i = 1 to 2 { if i = 2 { say 1 } else { say 2 } }", [0, 1, 2, 3])

    def test_definitions(self):
        text = "def f() { row 1 } def g() { row 2 do f() } say 1 if rows = 3 { do g() }"
        self.assert_begun(text, [0, 1, 2, 3, 4, 5])
        self.assert_begun(text, [3, 4], start=("#",))
        self.assert_begun("def f() { stop } def g() { row 2 } do f() do g()", [0, 2])

    def test_runs_that_end_early(self):
        self.assert_begun("say 1 stop say 2", [0, 1])
        self.assert_begun("row 1 row 9 row 2", [0, 1])
        self.assert_begun("say 1 / 0 say 2", [0])
        self.assert_begun("say 1 while 1 { say 2 } say 3", [0, 1, 2])
        self.assert_begun("def f() { do f() say 1 } do f()", [0, 2])

    def test_a_statement_that_finds_no_tick_does_not_begin(self):
        self.assert_begun("row 1 row 2 row 3", [], ticks=0)
        self.assert_begun("row 1 row 2 row 3", [0], ticks=1)
        self.assert_begun("row 1 row 2 row 3", [0, 1, 2], ticks=3)
        self.assert_begun("while 1 { row 1 row 2 }", [0, 1], ticks=2)

    def test_against_a_plain_machine(self):
        for tree, text in made_programs(300):
            for ticks in (0, 3, 25, 500):
                plain = played(text, SMALL, ticks)[0]
                self.assert_begun(text, sorted(set(plain.begun)), ticks=ticks)
                self.assertLessEqual(len(set(plain.begun)), ticks_of(text, SMALL, ticks))


if __name__ == "__main__":
    unittest.main()
