"""Point 18, and of point 1 what holds for its values: the heading strokes/worlds.py."""

import itertools
import unittest

import strokes.worlds
from strokes.checks import sizes
from strokes.effects import act, normal, table
from strokes.errors import BadNumber, BadPicture, TooGreat
from strokes.goals import fewest, program_for, program_for_first
from strokes.machines import statements_run
from strokes.runs import run
from strokes.worlds import (
    always_makes, as_effect, effect_of_table, ends, makes_best, most_strokes, never_begun, parting, sayings,
)
from tests.programs import (
    NO_PICTURES, NO_SIZES, NO_TICKS, OTHERS, assert_error, assert_text_errors, boards_of,
    lists_without_repeats, made_programs, painted_plainly, pictures_of,
)

FUNCTIONS = (ends, sayings, most_strokes, always_makes, makes_best, parting, never_begun, as_effect, effect_of_table)
SIZED = (ends, sayings, most_strokes, never_begun, as_effect)
AIMING = (always_makes, makes_best)
GREAT = ((2, 5), (5, 2), (1, 10), (10, 1), (20, 20), (3, 4), (4, 3))
GREATEST = ((3, 3), (1, 9), (9, 1), (2, 4), (4, 2))
GOOD = ("done", "stopped")
# Programs that look and that do not, that end in different ways, that say nothing and much.
TEXTS = (
    "", "row 1", "col 1 row 1", "row rows col cols row 1", "stop", "say 1 stop row 1", "row 9", "say 1 say 2 say 1",
    "if black(1, 1) { col 1 }", "if black(1, 1) { row 9 } else { stop }", "if black(1, 1) { while 1 { } }",
    "say black(1, 1) say black(rows, cols)", "if black(rows, cols) { say 1 / 0 } row 1 say 5",
    "if not black(1, 1) { row 1 } if black(1, 1) { col 1 row 1 }", "say 1000 * 1000 * 1000 * (1 + black(1, 1))",
    "def f() { do f() } if black(1, cols) { do f() } else { row rows }",
    "for i = 1 to rows { for j = 1 to cols { if black(i, j) { say 10 * i + j } } }",
    "for i = 1 to rows { let n = 0 for j = 1 to cols { let n = n + black(i, j) } if cols < 2 * n { row i } say n }",
    "while not black(1, 1) { row 1 } while black(1, 1) { col 1 } say rows",
    "for i = 1 to cols { if black(1, i) { col i row rows } }", "if black(1, 1) { } else { row 1 }",
)


class WorldsTest(unittest.TestCase):
    maxDiff = None

    def runs(self, text, rows, columns, ticks):
        """Return the list of the pairs of all starts, ascending, and what their runs lead to."""
        return [(start, run(text, start, ticks)) for start in pictures_of(rows, columns)]

    def each(self, cells=6, most_texts=200):
        """Return the list of (text, rows, columns, ticks) of many programs and boards."""
        found = []
        for text in TEXTS:
            for rows, columns in boards_of(cells):
                for ticks in (0, 2, 60):
                    found.append((text, rows, columns, ticks))
        boards = boards_of(4)
        for start, (tree, text) in enumerate(made_programs(most_texts)):
            found.append((text,) + boards[start % len(boards)] + ((3, 30, 200)[start % 3],))
        return found


class TheInterface(WorldsTest):
    def test_the_functions_are_defined_in_the_file(self):
        for function in FUNCTIONS:
            self.assertEqual(function.__module__, "strokes.worlds")
            self.assertIs(getattr(strokes.worlds, function.__name__), function)

    def test_the_examples(self):
        self.assertEqual(ends("if black(1, 1) { col 1 }", 1, 1, 9), ((((".",), "done", 2),)))
        self.assertEqual(sayings("say black(1, 1)", 1, 1, 9), (((0,), 1), ((1,), 1)))
        self.assertIsNone(always_makes("row 1", ("#",), 9))
        self.assertEqual(makes_best("row 1", ("#",), 9), ("#",))
        self.assertEqual(parting("row 1", "", 1, 1, 9), (".",))
        self.assertEqual(most_strokes("if black(1, 1) { col 1 col 1 }", 1, 1, 9), (2, ("#",)))
        self.assertEqual(never_begun("if rows = 2 { row 1 }", 1, 1, 9), [1])
        self.assertEqual(as_effect("if black(1, 1) { col 1 }", 1, 1, 9), (1,))
        self.assertEqual(effect_of_table(2, 2, (".#", ".-")), (0, 2))

    def test_the_arguments_by_name(self):
        for function in SIZED:
            function(text="", rows=1, columns=1, ticks=1)
        for function in AIMING:
            function(text="", goal=("#",), ticks=1)
        self.assertIsNone(parting(text="", other="", rows=1, columns=1, ticks=1))
        self.assertEqual(effect_of_table(rows=1, columns=1, value=("#",)), (0,))

    def test_lists_are_new(self):
        first = never_begun("stop row 1", 1, 1, 9)
        first.append(7)
        self.assertEqual(never_begun("stop row 1", 1, 1, 9), [1])


class Errors(WorldsTest):
    def test_texts(self):
        for function in SIZED:
            for behind in ((2, 2, 9), (None, 2, 9), (2, 0, None), (5, 5, 9)):
                assert_text_errors(self, function, (), behind)
        for function in AIMING:
            for behind in ((("#",), 9), (None, 9), (("#" * 10,), None)):
                assert_text_errors(self, function, (), behind)
        for behind in ((2, 2, 9), (None, 2, 9), (5, 5, 9)):
            assert_text_errors(self, parting, (), ("",) + behind)
            assert_text_errors(self, parting, (), (None,) + behind)
            assert_text_errors(self, parting, ("",), behind)

    def test_numbers(self):
        for function, texts in [(function, ("",)) for function in SIZED] + [(parting, ("", ""))]:
            for size in NO_SIZES:
                for other in (2, 20):
                    for ticks in (9, None):
                        assert_error(self, BadNumber, {}, function, *texts, size, other, ticks)
                        assert_error(self, BadNumber, {}, function, *texts, other, size, ticks)
            for ticks in NO_TICKS:
                assert_error(self, BadNumber, {}, function, *texts, 2, 2, ticks)
                assert_error(self, BadNumber, {}, function, *texts, 5, 5, ticks)
            function(*texts, 1, 1, 0)
            function(*texts, 1, 1, 20000)
        for function in AIMING:
            for ticks in NO_TICKS:
                assert_error(self, BadNumber, {}, function, "", ("#",), ticks)
                assert_error(self, BadNumber, {}, function, "", ("#" * 10,), ticks)

    def test_pictures(self):
        for function in AIMING:
            for picture in NO_PICTURES:
                for ticks in (9, None):
                    assert_error(self, BadPicture, {}, function, "", picture, ticks)

    def test_great_boards(self):
        for rows, columns in GREAT:
            for function in SIZED:
                assert_error(self, TooGreat, {"most": 9}, function, "row 1", rows, columns, 9)
                assert_error(self, TooGreat, {"most": 9}, function, "row 99", rows, columns, 9)
            assert_error(self, TooGreat, {"most": 9}, parting, "row 1", "", rows, columns, 9)
            for function in AIMING:
                assert_error(self, TooGreat, {"most": 9}, function, "row 1", ("#" * columns,) * rows, 9)
            for value in (("#" * columns,) * rows, None):
                assert_error(self, TooGreat, {"most": 9}, effect_of_table, rows, columns, value)

    def test_the_greatest_boards(self):
        text = "if black(1, 1) { row 1 } say black(rows, cols)"
        for rows, columns in GREATEST:
            cells = rows * columns
            # In one row the last cell is made black with the first one.
            white = 2 ** (cells - 1) if rows > 1 else 2 ** (cells - 2)
            self.assertEqual(sayings(text, rows, columns, 9), (((0,), white), ((1,), 2 ** cells - white)))
            self.assertEqual(sum(many for _, _, many in ends(text, rows, columns, 9)), 2 ** cells)
            self.assertEqual(most_strokes(text, rows, columns, 9), (1, ("#" * columns,) * rows))
            self.assertEqual(never_begun(text, rows, columns, 9), [])
            # In one column the first cell stands alone in its row.
            least = ("#" * (columns - 1) + ".",) + ("#" * columns,) * (rows - 1) if columns > 1 else None
            self.assertEqual(parting(text, "", rows, columns, 9), least)
            goal = ("#" * columns,) * rows
            self.assertIsNone(always_makes(" ".join(f"row {row + 1}" for row in range(rows)), goal, 9))
            self.assertEqual(makes_best("", goal, 9), ("#" * columns,) * (rows - 1) + ("#" * (columns - 1) + ".",))
            self.assertEqual(as_effect("row 1", rows, columns, 9), (0,))
            self.assertEqual(effect_of_table(rows, columns, goal), tuple(range(rows)))

    def test_sizes_of_tables(self):
        for size in NO_SIZES:
            for value in (("#",), None):
                assert_error(self, BadNumber, {}, effect_of_table, size, 2, value)
                assert_error(self, BadNumber, {}, effect_of_table, 20, size, value)


class Against(WorldsTest):
    """Each function against the runs from all starts."""

    def test_ends_and_sayings(self):
        for text, rows, columns, ticks in self.each():
            with self.subTest(text, board=(rows, columns), ticks=ticks):
                runs = self.runs(text, rows, columns, ticks)
                found = [(answer[0], answer[3]) for _, answer in runs]
                expected = tuple(sorted((picture, end, found.count((picture, end))) for picture, end in set(found)))
                self.assertEqual(ends(text, rows, columns, ticks), expected)
                found = [answer[2] for _, answer in runs]
                expected = tuple(sorted((said, found.count(said)) for said in set(found)))
                self.assertEqual(sayings(text, rows, columns, ticks), expected)

    def test_most_strokes(self):
        for text, rows, columns, ticks in self.each(cells=4):
            with self.subTest(text, board=(rows, columns), ticks=ticks):
                runs = self.runs(text, rows, columns, ticks)
                most = max(len(answer[1]) for _, answer in runs)
                least = min(start for start, answer in runs if len(answer[1]) == most)
                self.assertEqual(most_strokes(text, rows, columns, ticks), (most, least))
                self.assertIs(type(most_strokes(text, rows, columns, ticks)), tuple)

    def test_never_begun(self):
        for text, rows, columns, ticks in self.each(cells=4):
            with self.subTest(text, board=(rows, columns), ticks=ticks):
                begun = set()
                for start in pictures_of(rows, columns):
                    begun.update(statements_run(text, start, ticks))
                expected = [number for number in range(sizes(text)[1]) if number not in begun]
                self.assertEqual(never_begun(text, rows, columns, ticks), expected)

    def test_always_makes(self):
        found = []
        for text, rows, columns, ticks in self.each(cells=4, most_texts=100):
            runs = self.runs(text, rows, columns, ticks)
            for goal in pictures_of(rows, columns)[::2] + [runs[0][1][0]]:
                with self.subTest(text, goal=goal, ticks=ticks):
                    wrong = [start for start, answer in runs if answer[3] not in GOOD or answer[0] != goal]
                    expected = min(wrong) if wrong else None
                    self.assertEqual(always_makes(text, goal, ticks), expected)
                    found.append(expected)
        self.assertIn(None, found)

    def test_makes_best(self):
        for text, rows, columns, ticks in self.each(cells=4, most_texts=50):
            for goal in pictures_of(rows, columns)[::3]:
                self.assert_best(text, goal, ticks)

    def assert_best(self, text, goal, ticks):
        wrong = []
        for start, (picture, lines, said, end) in self.runs(text, len(goal), len(goal[0]), ticks):
            few = fewest(start, goal)
            best = not lines if few is None else picture == goal and len(lines) == few
            if not best or end not in GOOD:
                wrong.append(start)
        expected = min(wrong) if wrong else None
        with self.subTest(text, goal=goal, ticks=ticks):
            self.assertEqual(makes_best(text, goal, ticks), expected)
        return expected

    def test_makes_best_of_programs_that_do(self):
        for rows, columns in boards_of(6):
            for goal in pictures_of(rows, columns)[::5]:
                self.assertIsNone(self.assert_best(program_for(goal), goal, 5000))
                self.assertIsNone(self.assert_best(program_for_first((goal,)), goal, 5000))
                # Too few ticks; and strokes that are too many, or made where the goal does not come.
                self.assertIsNotNone(self.assert_best(program_for(goal), goal, 0))
                self.assertIsNotNone(self.assert_best(program_for(goal) + " row 1 row 1", goal, 5000))

    def test_makes_best_where_the_goal_does_not_come(self):
        self.assertIsNone(makes_best("", ("#.", ".#"), 9))
        self.assertEqual(makes_best("say 1 / 0", ("#.", ".#"), 9), ("##", "##"))
        self.assertEqual(makes_best("while 1 { }", ("#.", ".#"), 9), ("##", "##"))
        self.assertIsNone(makes_best("stop", ("#.", ".#"), 9))
        self.assertEqual(makes_best("if not black(1, 1) { row 1 }", ("#.", ".#"), 9), (".#", "##"))
        # As it stands already, though painted twice.
        self.assertEqual(makes_best("if black(1, 1) { row 1 } else { row 1 row 1 }", ("#", "#"), 9), ("#", "#"))

    def test_parting(self):
        found = []
        for text in TEXTS:
            for other in TEXTS:
                for rows, columns in ((1, 1), (1, 2), (2, 2)):
                    for ticks in (2, 60):
                        pairs = zip(self.runs(text, rows, columns, ticks), self.runs(other, rows, columns, ticks))
                        wrong = [start for (start, one), (_, two) in pairs if one[0] != two[0] or one[3] != two[3]]
                        expected = min(wrong) if wrong else None
                        with self.subTest(text, other=other, board=(rows, columns), ticks=ticks):
                            self.assertEqual(parting(text, other, rows, columns, ticks), expected)
                        found.append(expected)
        self.assertGreater(len(set(found)), 8)

    def test_parting_by_picture_and_by_end_alone(self):
        self.assertIsNone(parting("say 1 row 1", "row 1 row 1 say 2", 2, 2, 9))
        self.assertEqual(parting("stop", "", 2, 2, 9), ("##", "##"))
        self.assertEqual(parting("if black(2, 2) { } else { stop }", "", 2, 2, 9), ("##", "#."))
        self.assertEqual(parting("row 1", "", 2, 2, 9), ("#.", "##"))
        self.assertEqual(parting("col 2", "", 2, 2, 9), ("##", "##"))


class Effects(WorldsTest):
    def effects_of(self, rows, columns):
        """Return a dict of the effects that each table has, found by all lists in which no line stands twice."""
        blank = ("-" * columns,) * rows
        return {painted_plainly(blank, lines): normal(rows, columns, lines)
                for lines in lists_without_repeats(rows, columns)}

    def test_tables_of_small_boards(self):
        for rows, columns in boards_of(4) + [(2, 3), (3, 2)]:
            effects = self.effects_of(rows, columns)
            for signs in itertools.product("#.-", repeat=rows * columns):
                text = "".join(signs)
                value = tuple(text[at:at + columns] for at in range(0, rows * columns, columns))
                answer = effect_of_table(rows, columns, value)
                self.assertEqual(answer, effects.get(value), value)
                self.assertIs(type(answer), tuple if value in effects else type(None))

    def test_tables_of_greater_boards(self):
        for rows, columns in ((3, 3), (1, 9), (9, 1), (4, 2)):
            for seed in range(200):
                lines = [seed * (at + 3) * 7 // (at + 1) % (rows + columns) for at in range(seed % 9)]
                value = table(rows, columns, lines)
                self.assertEqual(effect_of_table(rows, columns, value), normal(rows, columns, lines))
        self.assertIsNone(effect_of_table(3, 3, ("#--", "-#-", "--#")))
        self.assertIsNone(effect_of_table(3, 3, ("###", "##-", "###")))

    def test_other_values(self):
        for value in OTHERS + (("##",), ("##", "##", "##"), ("##", "#"), ("#", "#"), ("###", "###"), ["##", "##"],
                               "####", ("##", "#x"), ("##", "# "), (("#", "#"), ("#", "#")), ("##", ["#", "#"]),
                               ("##", None), ("##", 22), ((), ()), ("", "")):
            self.assertIsNone(effect_of_table(2, 2, value), value)
        self.assertIsNone(effect_of_table(1, 1, ("##",)))
        self.assertEqual(effect_of_table(2, 2, ("##", "##")), (0, 1))
        self.assertEqual(effect_of_table(2, 2, ("--", "--")), ())

    def test_as_effect_against_all_effects(self):
        found = []
        for text, rows, columns, ticks in self.each(cells=4, most_texts=200):
            effects = sorted(set(self.effects_of(rows, columns).values()))
            runs = self.runs(text, rows, columns, ticks)
            expected = None
            if all(answer[3] in GOOD for _, answer in runs):
                same = [effect for effect in effects if all(act(start, effect) == answer[0] for start, answer in runs)]
                self.assertLess(len(same), 2)
                expected = same[0] if same else None
            with self.subTest(text, board=(rows, columns), ticks=ticks):
                self.assertEqual(as_effect(text, rows, columns, ticks), expected)
            found.append(expected)
        self.assertGreater(len(set(found)), 10)

    def test_programs_that_look_and_have_an_effect(self):
        self.assertEqual(as_effect("if black(1, 1) { col 1 } else { col 1 }", 2, 2, 9), (2,))
        self.assertEqual(as_effect("if not black(1, 1) { row 1 } else { row 1 }", 1, 1, 9), (0,))
        self.assertEqual(as_effect("if black(1, 1) { row 1 row 1 stop } row 1", 2, 2, 9), (0,))
        self.assertEqual(as_effect("say black(1, 1)", 2, 2, 9), ())
        self.assertEqual(as_effect("while black(1, 1) { col 1 }", 1, 1, 9), (1,))

    def test_programs_without_an_effect(self):
        self.assertIsNone(as_effect("if black(1, 1) { row 2 }", 2, 2, 9))
        # Black becomes white and white black.
        self.assertIsNone(as_effect("if black(1, 1) { col 1 } else { row 1 }", 1, 1, 9))
        # Each cell stays or becomes alike, but no strokes do this.
        self.assertIsNone(as_effect("if black(1, 1) { } else { if black(1, 2) { row 1 } }", 1, 2, 9))
        self.assertIsNone(as_effect("if black(1, 2) { col 1 } else { }", 1, 2, 9))

    def test_programs_that_end_otherwise_at_one_start(self):
        for text in ("if black(1, 1) and black(2, 2) and black(1, 2) and black(2, 1) { say 1 / 0 }",
                     "if not (black(1, 1) or black(2, 2) or black(1, 2) or black(2, 1)) { row 9 }",
                     "if black(1, 1) and black(2, 2) and not black(1, 2) { while 1 { } }"):
            self.assertIsNone(as_effect(text, 2, 2, 50))
        self.assertIsNone(as_effect("row 1 row 1", 2, 2, 1))
        self.assertEqual(as_effect("row 1 row 1", 2, 2, 2), (0,))


if __name__ == "__main__":
    unittest.main()
