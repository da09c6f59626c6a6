"""Point 12, and of point 1 what holds for codes and texts: the heading strokes/shorter.py."""

import unittest

import strokes.shorter
from strokes.codes import code, is_code
from strokes.errors import BadCode
from strokes.machines import execute, orders_done
from strokes.shorter import dead_orders, is_short, short_code, shorter
from tests.programs import OTHERS, Dice, assert_error, assert_text_errors, made_programs, orders_of

FUNCTIONS = (shorter, short_code, is_short, dead_orders)
SMALL = ("#.", "..", ".#")
MOST = 10 ** 9
LEADING = ("jump", "zero", "some", "call")
ENDING = ("jump", "stop", "done", "back")
TRUE = ("not", "truth", "lt", "le", "eq", "ne", "black")


def made_of_one(word, number):
    return {"neg": -number, "not": int(not number), "truth": int(bool(number))}[word]


def made_of_two(word, first, second):
    """Return what an order makes of two numbers, None if it would end the run."""
    if word in ("div", "mod"):
        if second == 0:
            return None
        return first // second if word == "div" else first % second
    made = {"add": first + second, "sub": first - second, "mul": first * second, "lt": int(first < second),
            "le": int(first <= second), "eq": int(first == second), "ne": int(first != second)}[word]
    return made if abs(made) <= MOST else None


class Slow:
    """A code made shorter as point 12 tells it, a change at a time, each change all over the code from the first."""

    def __init__(self, value):
        self.orders = list(value)

    def shorter(self):
        before = None
        while before != self.orders:
            before = list(self.orders)
            for change in (self.ones, self.ways, self.twos, self.truths, self.nexts):
                while change():
                    pass
            self.lead_on()
            self.drop_dead()
        return tuple(self.orders)

    def led(self, place):
        return any(word in LEADING and number == place for word, number in self.orders)

    def put(self, place, many, new):
        """Put new orders in the stead of so many."""
        def moved(number):
            if number <= place:
                return number
            return number - many + len(new)
        orders = self.orders[:place] + new + self.orders[place + many:]
        self.orders = [(word, moved(number)) if word in LEADING else (word, number) for word, number in orders]
        return True

    def ones(self):
        for at in range(len(self.orders) - 1):
            (word, number), (behind, _) = self.orders[at:at + 2]
            if word == "push" and behind in ("neg", "not", "truth") and not self.led(at + 1):
                return self.put(at, 2, [("push", made_of_one(behind, number))])
        return False

    def ways(self):
        for at in range(len(self.orders) - 1):
            (word, number), (behind, place) = self.orders[at:at + 2]
            if word == "push" and behind in ("zero", "some") and not self.led(at + 1):
                if (number == 0) == (behind == "zero"):
                    return self.put(at, 2, [("jump", place)])
                return self.put(at, 2, [])
        return False

    def twos(self):
        for at in range(len(self.orders) - 2):
            (word, first), (other, second), (behind, _) = self.orders[at:at + 3]
            if word == other == "push" and behind in "add sub mul div mod lt le eq ne".split():
                made = made_of_two(behind, first, second)
                if made is not None and not self.led(at + 1) and not self.led(at + 2):
                    return self.put(at, 3, [("push", made)])
        return False

    def truths(self):
        for at in range(len(self.orders) - 1):
            if self.orders[at][0] in TRUE and self.orders[at + 1][0] == "truth" and not self.led(at + 1):
                return self.put(at + 1, 1, [])
        return False

    def nexts(self):
        for at, order in enumerate(self.orders):
            if order == ("jump", at + 1):
                return self.put(at, 1, [])
        return False

    def lead_on(self):
        for at, (word, number) in enumerate(self.orders):
            if word in ("jump", "zero", "some"):
                end = number
                for _ in self.orders:
                    if self.orders[end][0] == "jump":
                        end = self.orders[end][1]
                if self.orders[end][0] != "jump":
                    self.orders[at] = (word, end)

    def dead(self):
        reached = {0}
        while True:
            more = set(reached)
            for at in reached:
                word, number = self.orders[at]
                if word in LEADING:
                    more.add(number)
                if word not in ENDING:
                    more.add(at + 1)
            if more == reached:
                return [at for at in range(len(self.orders)) if at not in reached]
            reached = more

    def drop_dead(self):
        for at in self.dead()[::-1]:
            self.put(at, 1, [])


def made_code(dice):
    """Return a code of orders chosen by dice, which need not be that of a program."""
    length = 3 + dice.below(22)
    places = [0] + [place for place in range(1, length - 1) if dice.below(12) == 0]
    orders = []
    for place in range(length):
        if place in places:
            orders.append(("frame", 2))
            continue
        word = dice.one_of("push push push push neg not truth zero some jump jump add sub mul div mod lt le eq ne "
                           "tick say load black row copy stop back call truth".split())
        number = 0
        if place == length - 1:
            word = dice.one_of(ENDING)
        if word == "push":
            number = dice.one_of((0, 0, 1, 2, -3, MOST, -MOST))
        elif word == "call":
            number = dice.one_of(places)
        elif word in LEADING:
            number = dice.below(length)
        elif word == "jump" and dice.below(3) == 0:
            number = min(place + 1, length - 1)
        elif word in ("tick", "load"):
            number = dice.below(3)
        orders.append((word, number))
    return tuple(orders)


class ShorterTest(unittest.TestCase):
    maxDiff = None

    def assert_shorter(self, lines, expected, ahead="frame 3, tick 0, "):
        """Orders and what becomes of them; the first place of those that are told is 2."""
        value = orders_of(ahead + lines)
        with self.subTest(lines):
            answer = shorter(value)
            self.assertEqual(answer, orders_of(ahead + expected))
            self.assertEqual([type(answer)] + [type(order) for order in answer], [tuple] * (len(answer) + 1))
            self.assertIs(is_code(answer), True)
            self.assertIs(is_short(value), answer == value)
            self.assertIs(is_short(answer), True)
            self.assertEqual(shorter(answer), answer)
            self.assertEqual(Slow(value).shorter(), answer)

    def assert_stays(self, lines):
        self.assert_shorter(lines, lines)


class TheInterface(ShorterTest):
    def test_the_functions_are_defined_in_the_file(self):
        for function in FUNCTIONS:
            self.assertEqual(function.__module__, "strokes.shorter")
            self.assertIs(getattr(strokes.shorter, function.__name__), function)

    def test_the_examples(self):
        self.assertEqual(short_code("if 1 = 1 { row 1 + 1 }"),
                         (("frame", 0), ("tick", 0), ("tick", 1), ("push", 2), ("row", 0), ("done", 0)))
        self.assertIs(is_short(code("say 1 + 1")), False)
        self.assertEqual(dead_orders((("frame", 0), ("stop", 0), ("done", 0))), [2])
        self.assertEqual(shorter(code("stop")), (("frame", 0), ("tick", 0), ("stop", 0)))

    def test_the_arguments_by_name(self):
        value = (("frame", 0), ("done", 0))
        self.assertEqual(shorter(value=value), value)
        self.assertIs(is_short(value=value), True)
        self.assertEqual(dead_orders(value=value), [])
        self.assertEqual(short_code(text=""), value)

    def test_returned_lists_are_new(self):
        value = (("frame", 0), ("stop", 0), ("done", 0))
        first = dead_orders(value)
        first.append(7)
        self.assertEqual(dead_orders(value), [2])

    def test_values_that_are_no_codes(self):
        wrong = OTHERS + ((("done", 0),), (("frame", 0), ("tick", 0)), [("frame", 0), ("done", 0)],
                          (("frame", 0), ["done", 0]), (("frame", False), ("done", 0)), (("frame", 0), ("jump", 2)))
        for function in (shorter, is_short, dead_orders):
            for value in wrong:
                assert_error(self, BadCode, {}, function, value)

    def test_the_errors_of_programs(self):
        assert_text_errors(self, short_code)


class Changes(ShorterTest):
    def test_a_number_and_an_order_of_one(self):
        for word, number, made in (("neg", 5, -5), ("neg", 0, 0), ("neg", -MOST, MOST), ("not", 0, 1), ("not", 5, 0),
                                   ("not", -5, 0), ("truth", 0, 0), ("truth", 1, 1), ("truth", -5, 1)):
            self.assert_shorter(f"push {number}, {word}, say, done", f"push {made}, say, done")

    def test_orders_of_one_one_behind_another(self):
        self.assert_shorter("push 5, neg, not, truth, neg, not, say, done", "push 1, say, done")

    def test_a_number_and_a_zero_or_some(self):
        self.assert_shorter("push 0, zero 6, push 7, say, done", "done")
        self.assert_shorter("push 1, zero 6, push 7, say, done", "push 7, say, done")
        self.assert_shorter("push 0, some 6, push 7, say, done", "push 7, say, done")
        self.assert_shorter("push -1, some 6, push 7, say, done", "done")
        # What becomes a jump that leads back stays one.
        self.assert_shorter("rows, say, tick 1, push 1, some 2, done", "rows, say, tick 1, jump 2")
        self.assert_shorter("rows, say, tick 1, push 0, zero 2, done", "rows, say, tick 1, jump 2")

    def test_two_numbers_and_an_order_of_two(self):
        for first, word, second, made in (
            (7, "add", -9, -2), (7, "sub", 9, -2), (7, "mul", -9, -63), (-7, "div", 2, -4), (-7, "mod", 3, 2),
            (7, "mod", -3, -2), (1, "lt", 2, 1), (2, "lt", 2, 0), (2, "le", 2, 1), (3, "le", 2, 0), (2, "eq", 2, 1),
            (1, "eq", 2, 0), (1, "ne", 2, 1), (2, "ne", 2, 0), (MOST, "add", 0, MOST), (-MOST, "mul", -1, MOST),
        ):
            self.assert_shorter(f"push {first}, push {second}, {word}, say, done", f"push {made}, say, done")

    def test_two_numbers_whose_order_would_end_the_run_stay(self):
        for first, word, second in ((MOST, "add", 1), (-MOST, "add", -1), (-MOST, "sub", 1), (MOST, "mul", 2),
                                    (100000, "mul", 10001), (5, "div", 0), (0, "div", 0), (5, "mod", 0)):
            self.assert_stays(f"push {first}, push {second}, {word}, say, done")
            # What stands within goes on being made shorter.
            self.assert_shorter(f"push {first}, push {-second}, neg, {word}, say, done",
                                f"push {first}, push {second}, {word}, say, done")

    def test_looks_of_numbers_stay(self):
        self.assert_stays("push 1, push 2, black, say, done")
        self.assert_stays("push 1, copy, add, say, done")
        self.assert_stays("push 1, store 0, load 0, neg, say, done")

    def test_truth_behind_truths(self):
        for word in ("not", "truth"):
            self.assert_shorter(f"rows, {word}, truth, say, done", f"rows, {word}, say, done")
        for word in ("lt", "le", "eq", "ne", "black"):
            self.assert_shorter(f"rows, cols, {word}, truth, say, done", f"rows, cols, {word}, say, done")
        self.assert_shorter("rows, truth, truth, truth, say, done", "rows, truth, say, done")
        for word in ("neg", "copy"):
            self.assert_stays(f"rows, {word}, truth, say, done")
        for word in ("add", "sub", "mul", "div", "mod"):
            self.assert_stays(f"rows, cols, {word}, truth, say, done")
        self.assert_stays("rows, truth, not, say, done")

    def test_a_jump_to_the_next_order(self):
        self.assert_shorter("jump 3, push 1, say, done", "push 1, say, done")
        self.assert_shorter("jump 3, jump 4, jump 5, push 1, say, done", "push 1, say, done")
        self.assert_shorter("rows, zero 4, jump 5, push 1, say, done", "rows, zero 4, push 1, say, done")
        # A zero and a some take a number, so they stay.
        self.assert_stays("rows, zero 4, rows, some 6, done")

    def test_jumps_to_jumps(self):
        self.assert_shorter("rows, zero 7, push 1, say, done, jump 10, push 2, say, stop",
                            "rows, zero 7, push 1, say, done, stop")
        self.assert_shorter("rows, zero 6, jump 7, stop, jump 8, jump 6, done", "rows, zero 4, done")
        self.assert_shorter("rows, some 6, jump 7, stop, jump 8, jump 6, stop, done",
                            "rows, some 4, stop")

    def test_jumps_to_jumps_where_all_is_reached(self):
        # All three ways lead to the last order in the end.
        self.assert_shorter("rows, zero 6, tick 1, jump 9, rows, some 5, tick 2, done",
                            "rows, zero 6, tick 1, jump 9, rows, some 9, tick 2, done")

    def test_jumps_that_lead_round_and_round_stay(self):
        self.assert_stays("jump 2")
        self.assert_stays("rows, zero 5, stop, jump 5")
        self.assert_stays("rows, zero 6, stop, jump 7, jump 5, jump 6")
        self.assert_shorter("rows, zero 5, stop, jump 6, jump 5", "rows, zero 5, stop, jump 5")
        # A round of two jumps with another order between them.
        self.assert_stays("rows, zero 6, rows, zero 7, jump 8, stop, jump 6")
        self.assert_shorter("rows, zero 6, rows, zero 8, jump 8, stop, jump 6",
                            "rows, zero 6, rows, zero 6, jump 6")

    def test_orders_that_cannot_be_reached(self):
        self.assert_shorter("stop, push 1, say, done", "stop")
        self.assert_shorter("done, push 1, say, stop", "done")
        self.assert_shorter("jump 5, push 1, say, done", "done")
        self.assert_shorter("call 4, done, frame 1, back, push 1, say, frame 2, back", "call 4, done, frame 1, back")
        self.assert_shorter("done, frame 1, call 5, frame 2, back", "done")

    def test_places_are_told_anew(self):
        self.assert_shorter("push 1, neg, say, rows, zero 10, call 11, jump 5, stop, done, frame 1, back",
                            "push -1, say, rows, zero 8, call 9, jump 4, done, frame 1, back")
        self.assert_shorter("call 8, push 1, neg, say, call 10, done, frame 1, back, frame 2, back",
                            "call 7, push -1, say, call 9, done, frame 1, back, frame 2, back")

    def test_the_first_order_stays(self):
        self.assert_shorter("jump 0", "jump 0", ahead="frame 3, ")
        self.assert_shorter("jump 2, done", "done", ahead="frame 3, ")
        self.assert_shorter("call 0, done", "call 0, done", ahead="frame 3, ")


class Crossing(ShorterTest):
    """A place to which an order leads is not crossed, though what is put together may begin there."""

    def test_orders_of_one(self):
        self.assert_stays("rows, rows, zero 6, push 5, neg, say, done")
        self.assert_shorter("rows, rows, zero 5, push 5, neg, say, done", "rows, rows, zero 5, push -5, say, done")
        self.assert_shorter("rows, rows, zero 7, push 5, neg, say, done", "rows, rows, zero 6, push -5, say, done")
        # Only the part behind the place.
        self.assert_shorter("rows, rows, zero 7, push 5, neg, push 6, neg, say, say, done",
                            "rows, rows, zero 6, push -5, push -6, say, say, done")

    def test_zeros_and_somes(self):
        self.assert_stays("rows, rows, some 6, push 0, zero 8, rows, say, done")
        self.assert_shorter("rows, rows, some 6, say, push 0, zero 10, rows, say, done",
                            "rows, rows, some 6, say, done")
        self.assert_shorter("rows, rows, some 5, push 1, zero 9, rows, say, done",
                            "rows, rows, some 5, rows, say, done")

    def test_a_place_whose_orders_become_nothing_is_the_next_order(self):
        # (push 1 and neg would cross the place to which some leads.)
        self.assert_shorter("rows, rows, some 6, push 5, push 1, zero 9, neg, say, done",
                            "rows, rows, some 6, push 5, neg, say, done")
        self.assert_shorter("rows, rows, some 6, push 5, push 1, zero 9, push 1, zero 10, neg, say, done",
                            "rows, rows, some 6, push 5, neg, say, done")
        self.assert_shorter("rows, rows, some 6, push 5, jump 7, neg, say, done",
                            "rows, rows, some 6, push 5, neg, say, done")

    def test_orders_of_two(self):
        for place in (6, 7):
            self.assert_stays(f"rows, rows, some {place}, push 1, push 2, add, say, done")
        for place, made in ((5, 5), (8, 6), (9, 7)):
            self.assert_shorter(f"rows, rows, some {place}, push 1, push 2, add, say, done",
                                f"rows, rows, some {made}, push 3, say, done")

    def test_truths(self):
        self.assert_stays("rows, rows, some 6, not, truth, say, done")
        self.assert_shorter("rows, rows, some 5, not, truth, say, done", "rows, rows, some 5, not, say, done")

    def test_places_of_orders_that_go_are_free_in_the_end(self):
        self.assert_shorter("push 5, neg, say, done, jump 3", "push -5, say, done")
        self.assert_shorter("push 5, jump 4, neg, say, done", "push -5, say, done")
        self.assert_shorter("push 5, push 0, some 5, neg, say, done", "push -5, say, done")


class Several(ShorterTest):
    def test_sums(self):
        self.assertEqual(short_code("say 1 + 2 * 3 - 4 / 2"), orders_of("frame 0, tick 0, push 5, say, done"))
        self.assertEqual(short_code("say -(2 - -3) mod 3"), orders_of("frame 0, tick 0, push 1, say, done"))
        self.assertEqual(short_code("say not 1 < 2"), orders_of("frame 0, tick 0, push 0, say, done"))
        self.assertEqual(short_code("say rows + 1 + 2"), orders_of("frame 0, tick 0, rows, push 1, add, push 2, add, "
                                                                   "say, done"))
        self.assertEqual(short_code("say rows + (1 + 2)"), orders_of("frame 0, tick 0, rows, push 3, add, say, done"))

    def test_and_and_or(self):
        # The copy of a number pushed is no number pushed.
        self.assertEqual(short_code("say 1 and rows"),
                         orders_of("frame 0, tick 0, push 1, copy, zero 8, rows, truth, mul, say, done"))
        self.assertEqual(short_code("say rows < 1 or cols < 2"),
                         orders_of("frame 0, tick 0, rows, push 1, lt, copy, some 11, cols, push 2, lt, add, say, "
                                   "done"))

    def test_blocks(self):
        self.assertEqual(short_code("if 0 { say 1 } else { say 2 }"),
                         orders_of("frame 0, tick 0, tick 2, push 2, say, done"))
        self.assertEqual(short_code("if 2 { say 1 } else { say 2 }"),
                         orders_of("frame 0, tick 0, tick 1, push 1, say, done"))
        self.assertEqual(short_code("while 1 { say 1 } say 2"),
                         orders_of("frame 0, tick 0, tick 1, push 1, say, tick 0, jump 2"))
        self.assertEqual(short_code("while 0 { say 1 } say 2"),
                         orders_of("frame 0, tick 0, tick 2, push 2, say, done"))
        # The jump behind the first inner block leads to that behind the first outer one.
        self.assertEqual(short_code("if rows { if cols { say 1 } else { say 2 } } else { say 3 }"),
                         orders_of("frame 0, tick 0, rows, zero 15, tick 1, cols, zero 11, tick 2, push 1, say, "
                                   "jump 18, tick 3, push 2, say, jump 18, tick 4, push 3, say, done"))

    def test_definitions_that_none_calls(self):
        self.assertEqual(short_code("def f() { say 1 } say 2"), orders_of("frame 0, tick 1, push 2, say, done"))
        self.assertEqual(short_code("def f() { say 1 } def g(a) { say a } do g(3)"),
                         orders_of("frame 0, tick 2, push 3, call 5, done, "
                                   "frame 1, store 0, tick 1, load 0, say, back"))
        self.assertEqual(short_code("def f() { do f() } if 0 { do f() }"), orders_of("frame 0, tick 1, done"))
        self.assertEqual(short_code("def f() { do f() } stop do f()"), orders_of("frame 0, tick 1, stop"))

    def test_a_long_chain_of_changes(self):
        self.assertEqual(short_code("say " + " + ".join(["1"] * 5000)),
                         orders_of("frame 0, tick 0, push 5000, say, done"))
        value = (("frame", 0),) + tuple(("jump", place) for place in range(2, 40000)) + (("done", 0),)
        self.assertEqual(shorter(value), (("frame", 0), ("done", 0)))

    def test_long_rows_of_jumps_that_lead_on(self):
        many = 20000
        value = (("frame", 0), ("rows", 0), ("zero", 3)) + tuple(
            ("jump", place + 2) for place in range(3, many)) + (("stop", 0), ("done", 0))
        self.assertEqual(len(shorter(value)), 4)

    def test_a_program_with_more_orders_than_a_code_may_have(self):
        text = "row 1+1 " * 12000
        self.assertEqual(len(code(text)), 60002)
        self.assertEqual(len(short_code(text)), 36002)


class Dead(ShorterTest):
    def assert_dead(self, lines, places):
        value = orders_of(lines)
        with self.subTest(lines):
            answer = dead_orders(value)
            self.assertEqual(answer, places)
            self.assertEqual([type(answer)] + [type(place) for place in answer], [list] + [int] * len(places))

    def test_dead_orders(self):
        self.assert_dead("frame 0, done", [])
        self.assert_dead("frame 0, stop, done", [2])
        self.assert_dead("frame 0, back, done", [2])
        self.assert_dead("frame 0, jump 3, tick 0, done", [2])
        self.assert_dead("frame 0, rows, zero 4, stop, done", [])
        self.assert_dead("frame 0, rows, some 4, stop, done", [])
        self.assert_dead("frame 0, push 1, some 4, stop, done", [])
        self.assert_dead("frame 0, call 3, done, frame 1, back", [])
        self.assert_dead("frame 0, done, frame 1, back", [2, 3])
        self.assert_dead("frame 0, done, frame 1, call 4, frame 2, back", [2, 3, 4, 5])
        self.assert_dead("frame 0, jump 0, done, stop", [2, 3])
        self.assert_dead("frame 0, jump 3, jump 2, jump 1", [2])

    def test_against_a_slow_search(self):
        dice = Dice(77)
        for _ in range(500):
            value = made_code(dice)
            with self.subTest(value):
                self.assertEqual(dead_orders(value), Slow(value).dead())


class Codes(ShorterTest):
    def test_codes_that_no_program_has(self):
        dice = Dice(5)
        changed = 0
        for _ in range(3000):
            value = made_code(dice)
            with self.subTest(value):
                self.assertIs(is_code(value), True)
                answer = shorter(value)
                self.assertEqual(answer, Slow(value).shorter())
                self.assertIs(is_code(answer), True)
                self.assertEqual(shorter(answer), answer)
                self.assertIs(is_short(answer), True)
                self.assertIs(is_short(value), answer == value)
                self.assertEqual(dead_orders(answer), [])
                changed += answer != value
        self.assertGreater(changed, 1000)

    def test_programs(self):
        for tree, text in made_programs(400):
            value = code(text)
            answer = short_code(text)
            with self.subTest(text):
                self.assertEqual(answer, shorter(value))
                self.assertEqual(answer, Slow(value).shorter())
                self.assertEqual(shorter(answer), answer)
                self.assertIs(is_code(answer), True)
                self.assertIs(is_short(answer), True)
                for ticks in (0, 1, 2, 7, 30, 500):
                    self.assertEqual(execute(answer, SMALL, ticks), execute(value, SMALL, ticks))
                    self.assertLessEqual(orders_done(answer, SMALL, ticks), orders_done(value, SMALL, ticks))

    def test_the_code_is_not_modified(self):
        value = code("if 1 = 1 { row 1 + 1 }")
        kept = tuple(tuple(order) for order in value)
        shorter(value)
        self.assertEqual(value, kept)


if __name__ == "__main__":
    unittest.main()
