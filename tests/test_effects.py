"""Points 13 and 14, and of point 1 what holds for their values: the heading strokes/effects.py."""

import itertools
import unittest

import strokes.effects
from strokes.boards import painted
from strokes.effects import (
    act, alike, always, brings, effect_for, effect_of, hides, is_effect, layers, normal, product, program_of,
    same_table, shortest_lists, table,
)
from strokes.errors import (
    BadEffect, BadNumber, BadPicture, BadStrokes, NotBlind, NotDone, NotText, OtherBoard, TooMany,
)
from strokes.runs import run
from tests.programs import (
    NO_PICTURES, NO_SIZES, NO_TICKS, OTHERS, Dice, assert_error, assert_text_errors, boards_of,
    lists_without_repeats, made_programs, painted_plainly, pictures_of,
)

FUNCTIONS = (act, alike, always, brings, effect_for, effect_of, hides, is_effect, layers, normal, product, program_of,
             same_table, shortest_lists, table)
NO_STROKES = (None, 5, "0", (), (0,), [4], [-1], [0, 4], [True], [0, None], ["0"], [[0]], {0: 1})
NO_EFFECTS = (None, 5, "0", [], [0], (4,), (-1,), (True,), (0, None), ("0",), ((0,),), {}, {0: 1},
              # On a board of two rows and two columns: not ascending, told twice, hidden.
              (1, 0), (3, 2), (0, 0), (0, 2, 0), (0, 2, 3), (2, 0, 1), (2, 3, 0, 1), (0, 3, 2), (0, 1, 2, 3))


def plain_table(rows, columns, strokes):
    return painted_plainly(("-" * columns,) * rows, strokes)


def lists_of(rows, columns, most):
    """Return the list of all lists of at most so many strokes."""
    found = []
    for length in range(most + 1):
        found.extend(list(lines) for lines in itertools.product(range(rows + columns), repeat=length))
    return found


def effects_of(rows, columns):
    """Return a dict of all effects and of the tables that they have."""
    return {normal(rows, columns, lines): plain_table(rows, columns, lines)
            for lines in lists_without_repeats(rows, columns)}


class EffectsTest(unittest.TestCase):
    maxDiff = None


class TheInterface(EffectsTest):
    def test_the_functions_are_defined_in_the_file(self):
        for function in FUNCTIONS:
            self.assertEqual(function.__module__, "strokes.effects")
            self.assertIs(getattr(strokes.effects, function.__name__), function)

    def test_the_examples(self):
        self.assertEqual(normal(2, 2, [0, 2, 0]), (2, 0))
        self.assertEqual(normal(2, 2, [2, 0, 1]), (0, 1))
        self.assertIs(is_effect(2, 2, (1, 0)), False)
        self.assertEqual(table(2, 2, [0, 2]), (".#", ".-"))
        self.assertEqual(layers(2, 2, (0, 2)), ((0,), (2,)))
        self.assertEqual(act(("..", ".."), (0, 2)), (".#", ".."))
        self.assertEqual(product(2, 2, (0,), (2,)), (0, 2))
        self.assertIs(hides(2, 2, (0, 1), (2,)), True)
        self.assertEqual(shortest_lists(2, 2, (0, 1)), 2)
        self.assertEqual(same_table(2, 2, [1, 0]), [[0, 1], [1, 0]])
        self.assertEqual(always(2, 2, (0, 1)), ("##", "##"))
        self.assertEqual(effect_for(("#.", "#.")), (0, 1, 3))
        self.assertIs(brings(("..", ".."), ("##", ".."), (0,)), True)
        self.assertEqual(program_of(2, 2, (0, 2)), "row 1\ncol 1")
        self.assertEqual(effect_of("for i = 1 to rows { col 1 row i }", 2, 2, 50), (0, 2, 1))
        self.assertIs(alike("row 1 row 2", "row 2 row 1", 2, 2, 9), True)
        assert_error(self, NotBlind, {}, effect_of, "say black(1, 1)", 2, 2, 9)

    def test_the_arguments_by_name(self):
        self.assertEqual(normal(rows=2, columns=2, strokes=[0]), (0,))
        self.assertIs(is_effect(rows=2, columns=2, value=(0,)), True)
        self.assertEqual(table(rows=1, columns=1, strokes=[0]), ("#",))
        self.assertEqual(layers(rows=1, columns=1, effect=(0,)), ((0,),))
        self.assertEqual(act(picture=(".",), effect=(0,)), ("#",))
        self.assertEqual(product(rows=1, columns=1, one=(), other=(0,)), (0,))
        self.assertIs(hides(rows=1, columns=1, one=(), other=(0,)), False)
        self.assertEqual(shortest_lists(rows=1, columns=1, effect=(0,)), 1)
        self.assertEqual(same_table(rows=1, columns=1, strokes=[0]), [[0]])
        self.assertEqual(always(rows=1, columns=1, effect=(0,)), ("#",))
        self.assertEqual(effect_for(goal=("#",)), (0,))
        self.assertIs(brings(start=(".",), goal=("#",), effect=(0,)), True)
        self.assertEqual(program_of(rows=1, columns=1, effect=(0,)), "row 1")
        self.assertEqual(effect_of(text="row 1", rows=1, columns=1, ticks=1), (0,))
        self.assertIs(alike(text="row 1", other="row 1", rows=1, columns=1, ticks=1), True)


class Errors(EffectsTest):
    def test_sizes(self):
        for function, behind in ((normal, ([],)), (is_effect, ((),)), (table, ([],)), (layers, ((),)),
                                 (product, ((), ())), (hides, ((), ())), (shortest_lists, ((),)), (same_table, ([],)),
                                 (always, ((),)), (program_of, ((),))):
            for size in NO_SIZES:
                for others in (behind, (None,) * len(behind)):
                    assert_error(self, BadNumber, {}, function, size, 2, *others)
                    assert_error(self, BadNumber, {}, function, 2, size, *others)
            function(1, 20, *behind)
            function(20, 1, *behind)

    def test_strokes(self):
        for function in (normal, table, same_table):
            for value in NO_STROKES:
                assert_error(self, BadStrokes, {}, function, 2, 2, value)
            assert_error(self, BadStrokes, {}, function, 1, 3, [4])
            function(1, 4, [4])

    def test_effects(self):
        for function in (layers, shortest_lists, always, program_of):
            for value in NO_EFFECTS:
                assert_error(self, BadEffect, {}, function, 2, 2, value)
        for function in (product, hides):
            for value in NO_EFFECTS:
                assert_error(self, BadEffect, {}, function, 2, 2, value, ())
                assert_error(self, BadEffect, {}, function, 2, 2, (), value)
        for value in NO_EFFECTS:
            assert_error(self, BadEffect, {}, act, ("..", ".."), value)
            assert_error(self, BadEffect, {}, brings, ("..", ".."), ("..", ".."), value)
        # What is an effect of one board is none of another.
        assert_error(self, BadEffect, {}, act, ("..",), (0, 1, 3))
        self.assertEqual(act(("...",), (0, 1, 3)), (".#.",))

    def test_pictures(self):
        for picture in NO_PICTURES:
            for effect in ((), None):
                assert_error(self, BadPicture, {}, act, picture, effect)
                assert_error(self, BadPicture, {}, brings, picture, ("#",), effect)
                assert_error(self, BadPicture, {}, brings, ("#",), picture, effect)
            assert_error(self, BadPicture, {}, effect_for, picture)

    def test_other_boards(self):
        for start, goal in ((("..",), (".",)), ((".",), (".", ".")), (("..",), (".", ".")), (("..", ".."), ("..",))):
            assert_error(self, OtherBoard, {}, brings, start, goal, ())
            assert_error(self, OtherBoard, {}, brings, start, goal, (0,))
            # The errors of all arguments come first.
            assert_error(self, BadEffect, {}, brings, start, goal, (40,))
            assert_error(self, BadEffect, {}, brings, start, goal, None)

    def test_too_many(self):
        # 720, 720 and 576 lists.
        assert_error(self, TooMany, {"most": 500}, same_table, 6, 1, [0, 1, 2, 3, 4, 5])
        assert_error(self, TooMany, {"most": 500}, same_table, 1, 6, [6, 5, 4, 3, 2, 1])
        assert_error(self, TooMany, {"most": 500}, same_table, 9, 9, [0, 1, 2, 3, 9, 10, 11, 12])
        assert_error(self, TooMany, {"most": 500}, same_table, 20, 20, list(range(40)))
        assert_error(self, BadStrokes, {}, same_table, 6, 1, [0, 1, 2, 3, 4, 5, 7])
        # The most that there can be are 480.
        self.assertEqual(len(same_table(9, 9, [0, 1, 2, 3, 4, 9, 10, 5, 6])), 480)
        self.assertEqual(len(same_table(9, 9, [0, 1, 9, 10, 11, 3, 4, 5, 12, 13, 14])), 432)
        self.assertEqual(same_table(6, 1, [0, 1, 2, 3, 4, 5, 6]), [[6]])

    def test_texts(self):
        for behind in ((2, 2, 9), (0, 2, 9), (2, 0, None)):
            assert_text_errors(self, effect_of, (), behind)
            assert_text_errors(self, alike, (), ("",) + behind)
            assert_text_errors(self, alike, ("",), behind)
        # The first text's errors come first, but not those for looking and for ends.
        assert_error(self, NotText, {}, alike, None, "say x", 2, 2, 9)
        assert_text_errors(self, alike, ("say black(1, 1)",), (2, 2, 9))
        assert_text_errors(self, alike, ("row 7",), (2, 2, 9))

    def test_numbers_behind_texts(self):
        for first in ("row 1", "row 7", "say black(1, 1)"):
            for size in NO_SIZES:
                for function, texts in ((effect_of, (first,)), (alike, (first, "")), (alike, ("", first))):
                    assert_error(self, BadNumber, {}, function, *texts, size, 2, 9)
                    assert_error(self, BadNumber, {}, function, *texts, 2, size, 9)
            for ticks in NO_TICKS:
                assert_error(self, BadNumber, {}, effect_of, first, 2, 2, ticks)
                assert_error(self, BadNumber, {}, alike, first, "", 2, 2, ticks)
                assert_error(self, BadNumber, {}, alike, "", first, 2, 2, ticks)

    def test_programs_that_look(self):
        for text in ("say black(1, 1)", "if 0 { say black(9, 9) }", "stop say black(x, y)",
                     "def f() { say black(1, 1) } row 1", "row 7 say black(1, 1)", "while 1 { } row black(1, 1)"):
            assert_error(self, NotBlind, {}, effect_of, text, 2, 2, 9)
            assert_error(self, NotBlind, {}, alike, text, "row 7", 2, 2, 9)
            assert_error(self, NotBlind, {}, alike, "row 7", text, 2, 2, 9)
        self.assertEqual(effect_of("let blacker = 1 row blacker", 2, 2, 9), (0,))

    def test_other_ends(self):
        cases = (("row 7", "range"), ("while 1 { }", "limit"), ("row 1 / 0", "divide"),
                 ("def f() { do f() } do f()", "depth"), ("say 999999 * 999999", "number"))
        for text, end in cases:
            assert_error(self, NotDone, {"end": end}, effect_of, text, 2, 2, 100)
            assert_error(self, NotDone, {"end": end}, alike, text, "row 1", 2, 2, 100)
            assert_error(self, NotDone, {"end": end}, alike, "row 1", text, 2, 2, 100)
            for other, _ in cases:
                # The first text's end is told.
                assert_error(self, NotDone, {"end": end}, alike, text, other, 2, 2, 100)
        assert_error(self, NotDone, {"end": "limit"}, effect_of, "row 1 row 2", 2, 2, 1)
        self.assertEqual(effect_of("row 1 row 2", 2, 2, 2), (0, 1))


class NormalForms(EffectsTest):
    def assert_normal(self, rows, columns, strokes, expected):
        with self.subTest((rows, columns), strokes=strokes):
            kept = list(strokes)
            answer = normal(rows, columns, strokes)
            self.assertEqual(answer, expected)
            self.assertEqual([type(answer)] + [type(line) for line in answer], [tuple] + [int] * len(answer))
            self.assertEqual(strokes, kept)
            self.assertIs(is_effect(rows, columns, answer), True)
            self.assertEqual(normal(rows, columns, list(answer)), answer)

    def test_the_last_stroke_of_each_line(self):
        self.assert_normal(3, 3, [], ())
        self.assert_normal(3, 3, [0, 0, 0], (0,))
        self.assert_normal(3, 3, [0, 3, 0], (3, 0))
        self.assert_normal(3, 3, [0, 3, 1, 0, 4, 3], (0, 1, 3, 4))
        self.assert_normal(3, 3, [3, 0, 4, 1, 3], (0, 4, 1, 3))

    def test_lines_within_a_layer_ascend(self):
        self.assert_normal(3, 3, [2, 0, 1], (0, 1, 2))
        self.assert_normal(3, 3, [5, 3, 2, 0, 4], (3, 5, 0, 2, 4))

    def test_lines_all_of_whose_crossing_lines_come_later(self):
        self.assert_normal(2, 2, [0, 2, 3], (2, 3))
        self.assert_normal(2, 2, [2, 0, 1], (0, 1))
        self.assert_normal(2, 2, [0, 2, 1, 3], (2, 1, 3))
        self.assert_normal(3, 2, [0, 1, 3, 2, 4], (3, 2, 4))
        self.assert_normal(2, 3, [0, 2, 3, 1, 4], (2, 3, 1, 4))
        self.assert_normal(2, 3, [2, 3, 4, 0, 1, 2, 3, 4], (2, 3, 4))

    def test_boards_of_one_row_one_column_and_one_cell(self):
        self.assert_normal(1, 1, [0, 1], (1,))
        self.assert_normal(1, 1, [0, 1, 0], (0,))
        self.assert_normal(1, 3, [1, 3, 0], (0,))
        self.assert_normal(1, 3, [1, 0, 3], (0, 3))
        self.assert_normal(1, 3, [0, 3, 1, 2], (1, 2, 3))
        self.assert_normal(3, 1, [3, 0], (3, 0))
        self.assert_normal(3, 1, [0, 3], (3,))
        self.assert_normal(3, 1, [3, 2, 0, 1], (0, 1, 2))

    def test_the_greatest_board(self):
        self.assert_normal(20, 20, list(range(40)), tuple(range(20, 40)))
        self.assert_normal(20, 20, list(range(39, -1, -1)), tuple(range(20)))
        self.assert_normal(20, 20, list(range(39)), tuple(range(39)))
        self.assert_normal(20, 20, list(range(40)) * 50 + [7], tuple(range(20, 40)) + (7,))
        stairs = [line for at in range(20) for line in (20 + at, at)]
        # All lines that cross the first one come later.
        self.assert_normal(20, 20, stairs, tuple(stairs[1:]))
        self.assert_normal(20, 20, stairs[::-1], tuple(stairs[-2::-1]))

    def test_normal_forms_are_equal_exactly_if_lists_do_the_same(self):
        for rows, columns, most in ((1, 1, 6), (1, 2, 6), (2, 1, 6), (1, 3, 5), (3, 1, 5), (2, 2, 6), (2, 3, 5),
                                    (3, 2, 5)):
            pictures = pictures_of(rows, columns)
            by_form = {}
            by_deed = {}
            for lines in lists_of(rows, columns, most):
                form = normal(rows, columns, lines)
                # A picture all black and one all white tell each cell; the first list of each form does all.
                deed = plain_table(rows, columns, lines)
                self.assertEqual(by_form.setdefault(form, deed), deed)
                self.assertEqual(by_deed.setdefault(deed, form), form)
            for form in by_form:
                for picture in pictures:
                    self.assertEqual(act(picture, form), painted_plainly(picture, form))

    def test_many_lists_of_greater_boards(self):
        dice = Dice(3)
        for _ in range(2000):
            rows, columns = 1 + dice.below(6), 1 + dice.below(6)
            lines = [dice.below(rows + columns) for _ in range(dice.below(15))]
            form = normal(rows, columns, lines)
            self.assertEqual(plain_table(rows, columns, form), plain_table(rows, columns, lines))
            # No line can be left out, and no line stands twice.
            self.assertEqual(len(set(form)), len(form))
            for at in range(len(form)):
                self.assertNotEqual(plain_table(rows, columns, form[:at] + form[at + 1:]),
                                    plain_table(rows, columns, lines))


class IsEffect(EffectsTest):
    def test_values_of_every_kind(self):
        for value in OTHERS + NO_EFFECTS:
            if value != ():
                self.assertIs(is_effect(2, 2, value), False, value)
        self.assertIs(is_effect(2, 2, ()), True)

    def test_all_tuples_of_small_boards(self):
        for rows, columns in boards_of(4):
            forms = effects_of(rows, columns)
            for lines in lists_of(rows, columns, rows + columns):
                self.assertIs(is_effect(rows, columns, tuple(lines)), tuple(lines) in forms)
                self.assertIs(is_effect(rows, columns, lines), False)

    def test_long_values(self):
        self.assertIs(is_effect(20, 20, tuple(range(39))), True)
        self.assertIs(is_effect(20, 20, tuple(range(40))), False)
        self.assertIs(is_effect(20, 20, tuple(range(20)) * 2), False)


class Deeds(EffectsTest):
    def test_tables_of_all_lists(self):
        for rows, columns in boards_of(4):
            for lines in lists_of(rows, columns, 4):
                answer = table(rows, columns, lines)
                self.assertEqual(answer, plain_table(rows, columns, lines))
                self.assertIs(type(answer), tuple)
        self.assertEqual(table(3, 2, []), ("--", "--", "--"))
        self.assertEqual(table(20, 20, [0, 20]), (".###################",) + (".-------------------",) * 19)

    def test_layers(self):
        self.assertEqual(layers(2, 2, ()), ())
        self.assertEqual(layers(2, 2, (0, 1)), ((0, 1),))
        self.assertEqual(layers(3, 3, (0, 2, 3, 4, 1)), ((0, 2), (3, 4), (1,)))
        for form in effects_of(2, 3):
            answer = layers(2, 3, form)
            self.assertEqual(tuple(line for layer in answer for line in layer), form)
            for one, other in zip(answer, answer[1:]):
                self.assertNotEqual(one[0] < 2, other[0] < 2)
            for layer in answer:
                self.assertIs(type(layer), tuple)
                self.assertEqual(len({line < 2 for line in layer}), 1)

    def test_act(self):
        for rows, columns in boards_of(6):
            for form in effects_of(rows, columns):
                for picture in pictures_of(rows, columns)[::3]:
                    self.assertEqual(act(picture, form), painted(picture, list(form)))

    def test_products_of_all_pairs(self):
        for rows, columns in ((1, 1), (1, 3), (3, 1), (2, 2)):
            forms = effects_of(rows, columns)
            for one in forms:
                for other in forms:
                    answer = product(rows, columns, one, other)
                    self.assertEqual(forms[answer], plain_table(rows, columns, one + other))
                    self.assertIs(hides(rows, columns, one, other),
                                  plain_table(rows, columns, other + one) == forms[one])

    def test_products_of_three_either_way(self):
        forms = list(effects_of(2, 2))
        for one, two, three in itertools.product(forms, repeat=3):
            self.assertEqual(product(2, 2, product(2, 2, one, two), three),
                             product(2, 2, one, product(2, 2, two, three)))

    def test_hides(self):
        self.assertIs(hides(2, 2, (), ()), True)
        self.assertIs(hides(2, 2, (), (0,)), False)
        self.assertIs(hides(2, 2, (0,), ()), True)
        self.assertIs(hides(2, 2, (0,), (2,)), False)
        self.assertIs(hides(2, 2, (0, 1), (0, 1)), True)
        self.assertIs(hides(2, 2, (2,), (0, 1)), False)
        self.assertIs(hides(2, 2, (0, 1), (2, 0)), True)

    def test_always(self):
        for rows, columns in boards_of(4) + [(2, 3), (3, 2)]:
            for form, told in effects_of(rows, columns).items():
                expected = None if "-" in "".join(told) else told
                self.assertEqual(always(rows, columns, form), expected)
                made = {act(picture, form) for picture in pictures_of(rows, columns)}
                self.assertEqual(len(made) == 1, expected is not None)

    def test_effect_for(self):
        for rows, columns in boards_of(4) + [(2, 3), (3, 2)]:
            made = {told: form for form, told in effects_of(rows, columns).items()}
            for goal in pictures_of(rows, columns):
                answer = effect_for(goal)
                self.assertEqual(answer, made.get(goal))
                self.assertIs(type(answer), tuple if goal in made else type(None))
        self.assertEqual(effect_for(("#" * 20,) * 20), tuple(range(20)))
        self.assertEqual(effect_for(("." * 20,) * 20), tuple(range(20, 40)))
        self.assertIsNone(effect_for(("#.", ".#")))
        self.assertIsNone(effect_for(("#" * 20,) * 18 + ("." + "#" * 19, "#." + "#" * 18)))

    def test_brings(self):
        for rows, columns in ((1, 1), (1, 3), (3, 1), (2, 2)):
            pictures = pictures_of(rows, columns)
            for form in effects_of(rows, columns):
                for start in pictures:
                    made = painted_plainly(start, form)
                    for goal in pictures:
                        self.assertIs(brings(start, goal, form), made == goal)


class Lists(EffectsTest):
    def test_all_shortest_lists_of_small_boards(self):
        for rows, columns in boards_of(4) + [(2, 3), (3, 2)]:
            by_table = {}
            for lines in lists_without_repeats(rows, columns):
                by_table.setdefault(plain_table(rows, columns, lines), []).append(lines)
            for told, lists in by_table.items():
                least = min(len(lines) for lines in lists)
                expected = sorted(lines for lines in lists if len(lines) == least)
                form = normal(rows, columns, lists[-1])
                self.assertEqual(shortest_lists(rows, columns, form), len(expected))
                for lines in (lists[0], lists[-1], lists[0] * 2):
                    if plain_table(rows, columns, lines) == told:
                        answer = same_table(rows, columns, lines)
                        self.assertEqual(answer, expected)
                        self.assertEqual([type(answer)] + [type(one) for one in answer], [list] * (len(answer) + 1))

    def test_numbers_of_lists(self):
        self.assertEqual(shortest_lists(2, 2, ()), 1)
        self.assertEqual(same_table(2, 2, []), [[]])
        self.assertEqual(shortest_lists(3, 3, (0, 1, 2)), 6)
        self.assertEqual(shortest_lists(3, 3, (0, 1, 3, 4, 2)), 4)
        self.assertEqual(shortest_lists(20, 20, tuple(range(20))), 2432902008176640000)
        self.assertEqual(shortest_lists(20, 20, tuple(range(39))), 2432902008176640000 ** 2 // 20)

    def test_returned_lists_are_new(self):
        strokes = [1, 0]
        first = same_table(2, 2, strokes)
        first[0].append(3)
        first.append(7)
        self.assertEqual(same_table(2, 2, strokes), [[0, 1], [1, 0]])
        self.assertEqual(strokes, [1, 0])
        table(2, 2, strokes)
        normal(2, 2, strokes)
        self.assertEqual(strokes, [1, 0])


class Programs(EffectsTest):
    def test_program_of(self):
        self.assertEqual(program_of(2, 2, ()), "")
        self.assertEqual(program_of(2, 2, (1,)), "row 2")
        self.assertEqual(program_of(20, 20, (19, 20, 39)), "row 20\ncol 1\ncol 20")
        for rows, columns in boards_of(4):
            for form in effects_of(rows, columns):
                text = program_of(rows, columns, form)
                for picture in pictures_of(rows, columns):
                    self.assertEqual(run(text, picture, 100), (act(picture, form), form, (), "done"))
                self.assertEqual(effect_of(text, rows, columns, 100), form)

    def test_effects_of_programs(self):
        self.assertEqual(effect_of("", 2, 2, 0), ())
        self.assertEqual(effect_of("row 1 col 2 row 1 stop row 2", 2, 2, 50), (3, 0))
        self.assertEqual(effect_of("for i = 1 to cols { col i } row rows", 3, 4, 50), (3, 4, 5, 6, 2))
        self.assertEqual(effect_of("def f(n) { row n stop } do f(2) col 1", 2, 2, 50), (1,))
        self.assertIs(type(effect_of("row 1", 2, 2, 50)), tuple)

    def test_made_programs(self):
        ends = {}
        for tree, text in made_programs(400):
            for rows, columns in ((2, 3), (3, 1)):
                for start in (("#" * columns,) * rows, ("." * columns,) * rows):
                    picture, lines, said, end = run(text, start, 60)
                    ends[end] = True
                    if "black" in text:
                        assert_error(self, NotBlind, {}, effect_of, text, rows, columns, 60)
                    elif end not in ("done", "stopped"):
                        assert_error(self, NotDone, {"end": end}, effect_of, text, rows, columns, 60)
                    else:
                        form = effect_of(text, rows, columns, 60)
                        self.assertEqual(form, normal(rows, columns, list(lines)))
                        self.assertEqual(act(start, form), picture)
        self.assertTrue(set(ends) >= {"done", "stopped", "limit", "range", "divide"})

    def test_alike(self):
        for text, other, expected in (
            ("", "", True), ("row 1", "row 1 row 1", True), ("row 1", "row 2", False),
            ("row 1 col 1", "col 1 row 1", False),
            ("row 1 row 2 say 3", "for i = 1 to rows { row rows + 1 - i }", True), ("", "say 1 stop row 1", True),
            ("row 1 col 1 col 2", "col 2 col 1", True), ("row 1", "row 1 col 1", False), ("stop row 1", "row 1", False),
        ):
            with self.subTest(text, other=other):
                self.assertIs(alike(text, other, 2, 2, 50), expected)
                self.assertIs(alike(other, text, 2, 2, 50), expected)
        # It depends on the board.
        self.assertIs(alike("row 1 row rows", "row 1", 1, 2, 50), True)
        self.assertIs(alike("row 1 row rows", "row 1", 2, 2, 50), False)
        self.assertIs(alike("row 1 col 1", "col 1", 2, 1, 50), True)


if __name__ == "__main__":
    unittest.main()
