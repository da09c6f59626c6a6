"""Point 21, and of point 1 what holds for its values: the heading strokes/desks.py."""

import unittest

import strokes.desks
from strokes.codes import code
from strokes.desks import Machine
from strokes.errors import BadNumber, BadPicture, NothingToUndo
from strokes.machines import execute, orders_done
from strokes.runs import run
from strokes.trees import places
from tests.machine import Plain
from tests.programs import NO_PICTURES, NO_TICKS, OTHERS, assert_error, assert_text_errors, made_programs

SMALL = ("#.", "..", ".#")
METHODS = ("step", "go", "stop_at", "back", "where")
PROPERTIES = ("board", "strokes", "spoken", "pile", "calls", "done", "outcome")
CALLS = "def f(n) { say n if n { do f(n - 1) } row 1 } do f(3) col 1"
TEXTS = (
    "", "row 1", "stop", "stop row 1", "row 1 say 2", "say 1 + 2 * 3 say -4", "row 9 row 1", "say 1 / 0",
    "let x = 3 while x { let x = x - 1 say x }", "for i = 1 to 3 { for j = i to 3 { say i * j } }", CALLS,
    "def f() { stop } do f() row 1", "def f() { do f() } do f()", "def f(a, b) { say a - b } do f(1, 2) do f(2, 1)",
    "while 1 { row 1 col 1 }", "let x = 2 while 1 { let x = x * x }", "if black(1, 1) { col 1 } else { row 1 } say 5",
    "say black(9, 1)", "say not 3 < 4 or rows and cols", "for i = 1 to 2 { if i = 2 { stop } say i }",
)


class Model:
    """A machine that keeps all that was ahead of each order."""

    def __init__(self, text, picture, ticks):
        self.text = text
        self.plain = Plain(code(text), picture, ticks)
        self.end = ""

    def step(self):
        """Do an order as the plain machine does; return all that can be seen of it."""
        plain = self.plain
        word, number = plain.value[plain.at]
        plain.at += 1
        plain.count += 1
        try:
            getattr(plain, "do_" + word)(number)
        except Exception as end:
            if type(end).__name__ != "End":
                raise
            self.end = str(end)

    def seen(self):
        plain = self.plain
        board = tuple("".join("#" if cell else "." for cell in row) for row in plain.cells)
        where = None
        if plain.begun:
            where = (plain.begun[-1], places(self.text)[plain.begun[-1]])
        # What is on the stack behind an order that ends a run with an error is not told.
        pile = tuple(plain.stack) if self.end in ("", "done", "stopped", "limit", "depth") else None
        return (board, tuple(plain.lines), tuple(plain.said), pile, len(plain.below), plain.count, self.end, where)


def seen(machine):
    """Return all that can be seen of a machine."""
    pile = machine.pile if machine.outcome in ("", "done", "stopped", "limit", "depth") else None
    return (machine.board, machine.strokes, machine.spoken, pile, machine.calls, machine.done, machine.outcome,
            machine.where())


def all_seen(text, picture, ticks, most=100000):
    """Return the list of what can be seen ahead of a run's first order and behind each."""
    model = Model(text, picture, ticks)
    found = [model.seen()]
    while model.end == "" and len(found) <= most:
        model.step()
        found.append(model.seen())
    return found


class DesksTest(unittest.TestCase):
    maxDiff = None

    def cases(self, many=120):
        """Return the list of (text, ticks) of many programs."""
        found = [(text, ticks) for text in TEXTS for ticks in (0, 1, 4, 40)]
        for start, (tree, text) in enumerate(made_programs(many)):
            found.append((text, (5, 30, 120)[start % 3]))
        return found


class TheInterface(DesksTest):
    def test_the_class_is_defined_in_the_file(self):
        self.assertEqual(Machine.__module__, "strokes.desks")
        self.assertIs(strokes.desks.Machine, Machine)
        for name in METHODS:
            self.assertTrue(callable(vars(Machine)[name]))
        for name in PROPERTIES:
            self.assertIsInstance(vars(Machine)[name], property)

    def test_the_examples(self):
        machine = Machine("row 1 say 2", ("..",), 9)
        self.assertIsNone(machine.stop_at((1,)))
        self.assertIsNone(machine.go())
        self.assertEqual((machine.board, machine.strokes, machine.done, machine.where()), (("##",), (0,), 4, (0, 1)))
        self.assertIsNone(machine.go())
        self.assertEqual((machine.spoken, machine.outcome), ((2,), "done"))
        self.assertIsNone(machine.back())
        self.assertEqual((machine.outcome, machine.calls, machine.pile), ("", 0, ()))
        assert_error(self, BadNumber, {}, machine.stop_at, (2,))

    def test_the_arguments_by_name(self):
        machine = Machine(text="row 1", picture=("..",), ticks=9)
        machine.stop_at(numbers=(0,))
        self.assertIsNone(machine.step())

    def test_the_beginning(self):
        machine = Machine("row 1", SMALL, 9)
        self.assertEqual(seen(machine), (SMALL, (), (), (), 0, 0, "", None))
        self.assertEqual([type(getattr(machine, name)) for name in PROPERTIES],
                         [tuple, tuple, tuple, tuple, int, int, str])

    def test_properties_are_not_assigned(self):
        machine = Machine("row 1", SMALL, 9)
        for name in PROPERTIES:
            with self.assertRaises(AttributeError):
                setattr(machine, name, 1)


class Errors(DesksTest):
    def test_texts(self):
        for behind in ((SMALL, 9), (None, 9), (SMALL, None)):
            assert_text_errors(self, Machine, (), behind)

    def test_pictures_and_ticks(self):
        for picture in NO_PICTURES:
            for ticks in (9, None):
                assert_error(self, BadPicture, {}, Machine, "row 9", picture, ticks)
        for ticks in NO_TICKS:
            assert_error(self, BadNumber, {}, Machine, "row 9", SMALL, ticks)
        Machine("row 9", SMALL, 0)
        Machine("row 9", SMALL, 20000)

    def test_stops(self):
        machine = Machine("row 1 row 2 if 1 { say 3 }", SMALL, 9)
        machine.stop_at((1, 3))
        for value in tuple(value for value in OTHERS if value != ()) + (
                [1], [], (4,), (-1,), (0, 4), (0, 0), (1, 0), (0, 2, 1), (True,), (False,), (0, True), (None,), ("1",),
                ((0,),), ([0],), (0, None), 0, 1, "01", {0: 1}, (10 ** 9,)):
            assert_error(self, BadNumber, {}, machine.stop_at, value)
        # A call that raises an error changes nothing.
        self.assertEqual(seen(machine), (SMALL, (), (), (), 0, 0, "", None))
        machine.go()
        self.assertEqual(machine.where(), (0, 1))
        self.assertEqual(machine.strokes, (0,))
        machine.stop_at((0, 1, 2, 3))
        empty = Machine("", SMALL, 9)
        empty.stop_at(())
        assert_error(self, BadNumber, {}, empty.stop_at, (0,))

    def test_nothing_to_undo(self):
        for text in TEXTS:
            machine = Machine(text, SMALL, 9)
            for _ in range(2):
                assert_error(self, NothingToUndo, {}, machine.back)
                self.assertEqual(seen(machine), (SMALL, (), (), (), 0, 0, "", None))
            machine.step()
            machine.back()
            assert_error(self, NothingToUndo, {}, machine.back)
            self.assertEqual(seen(machine), (SMALL, (), (), (), 0, 0, "", None))
            machine.go()
            self.assertEqual(machine.outcome, run(text, SMALL, 9)[3])


class Steps(DesksTest):
    def test_each_step_to_the_end_and_beyond_it(self):
        ends = set()
        for text, ticks in self.cases():
            with self.subTest(text, ticks=ticks):
                machine = Machine(text, SMALL, ticks)
                steps = all_seen(text, SMALL, ticks)
                self.assertEqual(seen(machine), steps[0])
                for expected in steps[1:]:
                    self.assertIsNone(machine.step())
                    self.assertEqual(seen(machine), expected)
                ends.add(machine.outcome)
                for _ in range(3):
                    self.assertIsNone(machine.step())
                    self.assertIsNone(machine.go())
                    self.assertEqual(seen(machine), steps[-1])
                self.assertEqual((machine.board, machine.strokes, machine.spoken, machine.outcome),
                                 run(text, SMALL, ticks))
                self.assertEqual(machine.done, orders_done(code(text), SMALL, ticks))
        self.assertEqual(sorted(ends), ["depth", "divide", "done", "limit", "number", "range", "stopped"])

    def test_the_pile(self):
        machine = Machine("say 1 + 2 * 3", SMALL, 9)
        piles = []
        while machine.outcome == "":
            piles.append(machine.pile)
            machine.step()
        self.assertEqual(piles, [(), (), (), (1,), (1, 2), (1, 2, 3), (1, 6), (7,), ()])

    def test_where(self):
        machine = Machine("def f() {\n  row 1\n}\nwhile rows {\n  do f()\n  stop\n}", SMALL, 20)
        found = []
        while machine.outcome == "":
            found.append(machine.where())
            machine.step()
        self.assertEqual(found[0], None)
        self.assertEqual(found[1], None)
        self.assertEqual(found[2], (1, 21))
        self.assertEqual([where for at, where in enumerate(found) if at < 2 or where != found[at - 1]],
                         [None, None, (1, 21), (2, 36), (0, 13), (3, 45)])

    def test_where_in_turns(self):
        for text, expected in (
            ("for i = 1 to 2 { say i }", [None, (0, 1), (1, 18), (0, 1), (1, 18), (0, 1)]),
            ("let i = 2 while i { let i = i - 1 }",
             [None, (0, 1), (1, 11), (2, 21), (1, 11), (2, 21), (1, 11)]),
        ):
            machine = Machine(text, SMALL, 20)
            found = [None]
            while machine.outcome == "":
                machine.step()
                if machine.where() != found[-1]:
                    found.append(machine.where())
            self.assertEqual(found, expected)

    def test_a_statement_that_finds_no_tick_has_not_begun(self):
        machine = Machine("row 1 row 2", SMALL, 1)
        machine.go()
        self.assertEqual((machine.outcome, machine.where(), machine.done), ("limit", (0, 1), 5))
        machine = Machine("row 1 row 2", SMALL, 0)
        machine.go()
        self.assertEqual((machine.outcome, machine.where(), machine.done), ("limit", None, 2))


class Going(DesksTest):
    def test_without_stops(self):
        for text, ticks in self.cases():
            with self.subTest(text, ticks=ticks):
                machine = Machine(text, SMALL, ticks)
                self.assertIsNone(machine.go())
                self.assertEqual(seen(machine), all_seen(text, SMALL, ticks)[-1])
                self.assertEqual((machine.board, machine.strokes, machine.spoken, machine.outcome),
                                 execute(code(text), SMALL, ticks))

    def test_with_stops(self):
        for text, ticks in self.cases():
            value = code(text)
            many = len(places(text))
            for stops in ((), tuple(range(many)), tuple(range(0, many, 2)), tuple(range(many))[-1:]):
                with self.subTest(text, ticks=ticks, stops=stops):
                    machine = Machine(text, SMALL, ticks)
                    self.assertIsNone(machine.stop_at(stops))
                    model = Model(text, SMALL, ticks)
                    while model.end == "":
                        model.step()
                        while model.end == "" and (value[model.plain.at][0] != "tick"
                                                   or value[model.plain.at][1] not in stops):
                            model.step()
                        machine.go()
                        self.assertEqual(seen(machine), model.seen())

    def test_at_least_one_order(self):
        machine = Machine("row 1 row 2", SMALL, 9)
        machine.stop_at((0,))
        machine.go()
        self.assertEqual((machine.done, machine.where(), machine.outcome), (1, None, ""))
        machine.go()
        self.assertEqual((machine.done, machine.outcome), (8, "done"))
        machine = Machine("row 1 row 2", SMALL, 9)
        machine.step()
        machine.stop_at((0, 1))
        machine.go()
        self.assertEqual((machine.done, machine.where(), machine.strokes), (4, (0, 1), (0,)))

    def test_turns_are_stopped_at_too(self):
        machine = Machine("let x = 2 while x { let x = x - 1 }", SMALL, 50)
        machine.stop_at((1,))
        found = []
        while machine.outcome == "":
            machine.go()
            found.append(machine.where())
        self.assertEqual(found, [(0, 1), (2, 21), (2, 21), (1, 11)])

    def test_stops_that_are_never_reached(self):
        machine = Machine("if 0 { row 1 } stop row 2", SMALL, 50)
        machine.stop_at((1, 3))
        machine.go()
        self.assertEqual(machine.outcome, "stopped")

    def test_stops_may_be_told_anew(self):
        machine = Machine("row 1 row 2 row 3", SMALL, 50)
        machine.stop_at((1,))
        machine.stop_at((2,))
        machine.go()
        self.assertEqual(machine.strokes, (0, 1))
        machine.stop_at(())
        machine.back()
        machine.go()
        self.assertEqual(machine.outcome, "done")

    def test_long_runs(self):
        text = "while 1 { row 1 col 1 }"
        machine = Machine(text, SMALL, 20000)
        machine.go()
        self.assertEqual((machine.board, machine.strokes, machine.spoken, machine.outcome), run(text, SMALL, 20000))
        done = machine.done
        for _ in range(300):
            machine.back()
        self.assertEqual((machine.done, machine.outcome), (done - 300, ""))
        machine.go()
        self.assertEqual((machine.board, machine.strokes, machine.spoken, machine.outcome), run(text, SMALL, 20000))


class Back(DesksTest):
    def test_from_the_end_back_to_the_beginning_and_on_again(self):
        for text, ticks in self.cases():
            with self.subTest(text, ticks=ticks):
                steps = all_seen(text, SMALL, ticks)
                machine = Machine(text, SMALL, ticks)
                machine.go()
                for expected in steps[-2::-1]:
                    self.assertIsNone(machine.back())
                    self.assertEqual(seen(machine), expected)
                assert_error(self, NothingToUndo, {}, machine.back)
                self.assertEqual(seen(machine), steps[0])
                for expected in steps[1:]:
                    machine.step()
                    self.assertEqual(seen(machine), expected)

    def test_from_every_place(self):
        for text in TEXTS:
            steps = all_seen(text, SMALL, 14)
            for place in range(1, len(steps)):
                machine = Machine(text, SMALL, 14)
                for _ in range(place):
                    machine.step()
                for expected in steps[place - 1::-1]:
                    machine.back()
                    self.assertEqual(seen(machine), expected)
                machine.go()
                self.assertEqual(seen(machine), steps[-1])

    def test_to_and_fro(self):
        for text in (CALLS, "while 1 { row 1 col 1 }", "for i = 1 to 40 { say i row 1 + i mod 3 }"):
            steps = all_seen(text, SMALL, 90)
            machine = Machine(text, SMALL, 90)
            place = 0
            for turn in range(400):
                wanted = turn * 37 % len(steps)
                while place < wanted:
                    machine.step()
                    place += 1
                while place > wanted:
                    machine.back()
                    place -= 1
                self.assertEqual(seen(machine), steps[place])

    def test_behind_an_end(self):
        for text, end in (("row 1 stop", "stopped"), ("row 9", "range"), ("say 1 / 0", "divide"), ("", "done"),
                          ("def f() { do f() } do f()", "depth"), ("while 1 { }", "limit")):
            machine = Machine(text, SMALL, 40)
            machine.go()
            done = machine.done
            self.assertEqual(machine.outcome, end)
            machine.step()
            self.assertEqual(machine.done, done)
            for _ in range(3):
                machine.back()
                self.assertEqual((machine.outcome, machine.done), ("", done - 1))
                machine.step()
                self.assertEqual((machine.outcome, machine.done), (end, done))

    def test_the_pile_comes_back_with_the_order_that_ended_the_run(self):
        machine = Machine("say 7 + 5 / 0", SMALL, 9)
        machine.go()
        self.assertEqual(machine.outcome, "divide")
        machine.back()
        self.assertEqual(machine.pile, (7, 5, 0))

    def test_stops_stay(self):
        machine = Machine("row 1 row 2 row 3", SMALL, 50)
        machine.stop_at((1,))
        machine.go()
        while machine.done:
            machine.back()
        machine.go()
        self.assertEqual(machine.strokes, (0,))


class Apart(DesksTest):
    def test_two_machines(self):
        one = Machine(CALLS, SMALL, 90)
        other = Machine(CALLS, SMALL, 90)
        one.stop_at((2,))
        for _ in range(9):
            other.step()
        self.assertEqual(seen(one), all_seen(CALLS, SMALL, 90)[0])
        one.go()
        self.assertEqual(seen(other), all_seen(CALLS, SMALL, 90)[9])
        other.back()
        self.assertEqual(seen(other), all_seen(CALLS, SMALL, 90)[8])
        other.go()
        self.assertEqual(other.outcome, "done")
        self.assertEqual(one.outcome, "")

    def test_what_is_seen_stays_as_it_was(self):
        machine = Machine("row 1 say 2 row 2", SMALL, 90)
        machine.stop_at((2,))
        machine.go()
        kept = seen(machine)
        machine.go()
        self.assertEqual(kept[:3], (("##", "..", ".#"), (0,), (2,)))
        self.assertEqual(SMALL, ("#.", "..", ".#"))


if __name__ == "__main__":
    unittest.main()
