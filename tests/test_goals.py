"""Points 16 and 17, and of point 1 what holds for pictures: the heading strokes/goals.py."""

import unittest

import strokes.goals
from strokes.boards import painted
from strokes.checks import is_good
from strokes.codes import code, is_code
from strokes.errors import BadGoals, BadPicture, OtherBoard, TooGreat
from strokes.goals import (
    comes, fewest, layers, program_for, program_for_first, program_for_nearest, shortest,
)
from strokes.machines import execute
from strokes.runs import run, ticks_of
from tests.programs import NO_PICTURES, Dice, assert_error, boards_of, painted_plainly, pictures_of

FUNCTIONS = (layers, comes, fewest, shortest, program_for, program_for_first, program_for_nearest)
NINE = (("#" * 9,), ("#",) * 9, ("." * 9,) * 9, ("#" * 20,) * 20)


def plain_layers(goal):
    """Return the layers of a goal, found line by line."""
    rows = len(goal)
    left = set(range(rows + len(goal[0])))
    found = []
    while True:
        def can(line):
            crossing = [other for other in left if (other < rows) != (line < rows)]
            cells = [goal[min(line, other)][max(line, other) - rows] for other in crossing]
            return set(cells) <= {"#" if line < rows else "."}
        able = sorted(line for line in left if can(line))
        if not able:
            return tuple(found)
        layer = [line for line in able if line < rows] or able
        found.append(tuple(layer))
        left -= set(layer)


def ways_from(start):
    """Return a dict of all pictures that come of a start and the fewest strokes that make them."""
    rows = len(start)
    found = {start: 0}
    waiting = [start]
    for picture in waiting:
        for line in range(rows + len(start[0])):
            made = painted_plainly(picture, [line])
            if made not in found:
                found[made] = found[picture] + 1
                waiting.append(made)
    return found


def made_picture(dice, rows, columns):
    """Return a picture, most often one that strokes have made."""
    black = 1 + dice.below(9)
    picture = tuple("".join("#" if dice.below(10) < black else "." for _ in range(columns)) for _ in range(rows))
    if dice.below(4) == 0:
        return picture
    many = dice.below(2 * (rows + columns))
    return painted_plainly(picture, [dice.below(rows + columns) for _ in range(many)])


class GoalsTest(unittest.TestCase):
    maxDiff = None


class TheInterface(GoalsTest):
    def test_the_functions_are_defined_in_the_file(self):
        for function in FUNCTIONS:
            self.assertEqual(function.__module__, "strokes.goals")
            self.assertIs(getattr(strokes.goals, function.__name__), function)

    def test_the_examples(self):
        self.assertEqual(layers(("##", "..")), ((0,), (2, 3), (1,)))
        self.assertIs(comes(("..", ".."), ("#.", ".#")), False)
        self.assertEqual(fewest(("..", ".."), ("##", "..")), 1)
        self.assertEqual(shortest(("..", ".."), ("##", "..")), (0,))
        self.assertEqual(run(program_for(("##", "..")), ("..", ".."), 5000), (("##", ".."), (0,), (1,), "done"))
        self.assertEqual(run(program_for_first((("#.", ".#"), ("..", ".."))), ("##", ".."), 5000),
                         (("..", ".."), (2, 3), (2,), "stopped"))
        self.assertEqual(run(program_for_nearest((("#.", ".#"), ("..", ".."))), ("##", ".."), 5000),
                         (("..", ".."), (2, 3), (2,), "done"))

    def test_the_arguments_by_name(self):
        self.assertEqual(layers(goal=("#",)), ((0,), (1,)))
        self.assertIs(comes(start=("#",), goal=("#",)), True)
        self.assertEqual(fewest(start=("#",), goal=("#",)), 0)
        self.assertEqual(shortest(start=("#",), goal=("#",)), ())
        self.assertIsInstance(program_for(goal=("#",)), str)
        self.assertIsInstance(program_for_first(goals=(("#",),)), str)
        self.assertIsInstance(program_for_nearest(goals=(("#",),)), str)


class Errors(GoalsTest):
    def test_pictures(self):
        for value in NO_PICTURES:
            assert_error(self, BadPicture, {}, layers, value)
            assert_error(self, BadPicture, {}, program_for, value)
            for function in (comes, fewest, shortest):
                for other in (("#",), ("..", ".."), None):
                    assert_error(self, BadPicture, {}, function, value, other)
                    assert_error(self, BadPicture, {}, function, other, value)

    def test_other_boards(self):
        for start, goal in ((("..",), (".",)), ((".",), (".", ".")), (("..",), (".", ".")), (("..", ".."), ("..",))):
            for function in (comes, fewest, shortest):
                assert_error(self, OtherBoard, {}, function, start, goal)

    def test_great_boards(self):
        for goal in NINE:
            assert_error(self, TooGreat, {"most": 8}, program_for, goal)
            for function in (program_for_first, program_for_nearest):
                assert_error(self, TooGreat, {"most": 8}, function, (goal,))
                assert_error(self, TooGreat, {"most": 8}, function, (goal, goal))
            self.assertGreater(len(layers(goal)), 0)
            self.assertEqual(fewest(goal, goal), 0)

    def test_goals(self):
        for function in (program_for_first, program_for_nearest):
            for value in (None, 5, True, "#", (), [], [("#",)], {}, {("#",): 1}, (("#",),) * 5, (None,) * 5,
                          [None], ("#",) * 5):
                assert_error(self, BadGoals, {}, function, value)
            for wrong in NO_PICTURES:
                assert_error(self, BadPicture, {}, function, (wrong,))
                assert_error(self, BadPicture, {}, function, (("#",), wrong))
                # Pictures come ahead of boards, and these ahead of great ones.
                assert_error(self, BadPicture, {}, function, (("#",), ("##",), wrong))
                assert_error(self, BadPicture, {}, function, (NINE[0], wrong, NINE[1]))
            # A picture is no tuple of pictures.
            assert_error(self, BadPicture, {}, function, ("#.", ".#"))
            for goals in ((("#",), ("##",)), (("#",), ("#", "#")), (("#",), ("#",), ("#",), ("##",)),
                          (("#",), ("#",), ("##",), ("#",)), (("##",), ("#",), ("#",))):
                assert_error(self, OtherBoard, {}, function, goals)
            assert_error(self, OtherBoard, {}, function, (NINE[0], NINE[1]))
            assert_error(self, OtherBoard, {}, function, (("#",), NINE[1]))
            for many in (1, 2, 3, 4):
                self.assertIs(is_good(function((("#" * 8,) * 8,) * many)), True)


class Layers(GoalsTest):
    def assert_layers(self, goal, expected):
        with self.subTest(goal):
            answer = layers(goal)
            self.assertEqual(answer, expected)
            self.assertIs(type(answer), tuple)
            for layer in answer:
                self.assertEqual([type(layer)] + [type(line) for line in layer], [tuple] + [int] * len(layer))

    def test_rounds(self):
        self.assert_layers(("##", "##"), ((0, 1), (2, 3)))
        self.assert_layers(("..", ".."), ((2, 3), (0, 1)))
        self.assert_layers(("#.", "#."), ((3,), (0, 1), (2,)))
        self.assert_layers(("#.", "##"), ((1,), (3,), (0,), (2,)))
        self.assert_layers(("###", "..#", "#.#"), ((0,), (4,), (2,), (3,), (1,), (5,)))

    def test_one_row_one_column_and_one_cell(self):
        self.assert_layers(("#",), ((0,), (1,)))
        self.assert_layers((".",), ((1,), (0,)))
        self.assert_layers(("#.#",), ((2,), (0,), (1, 3)))
        self.assert_layers(("...",), ((1, 2, 3), (0,)))
        self.assert_layers(("#", ".", "#"), ((0, 2), (3,), (1,)))

    def test_rows_left_without_columns(self):
        self.assert_layers(("##", ".."), ((0,), (2, 3), (1,)))
        self.assert_layers(("#.", ".."), ((3,), (0,), (2,), (1,)))
        self.assert_layers(("..", "..", ".."), ((3, 4), (0, 1, 2)))

    def test_cells_that_no_line_explains(self):
        self.assert_layers(("#.", ".#"), ())
        self.assert_layers(("###", "#.#", ".##"), ((0,),))
        self.assert_layers(("#.", ".#", "##"), ((2,),))
        self.assert_layers(("#..", ".#."), ((4,),))

    def test_the_greatest_board(self):
        self.assert_layers(("#" * 20,) * 20, (tuple(range(20)), tuple(range(20, 40))))
        stairs = tuple("#" * row + "." * (20 - row) for row in range(20))
        expected = [(39,)]
        for row in range(19, 0, -1):
            expected.extend([(row,), (19 + row,)])
        self.assert_layers(stairs, tuple(expected) + ((0,),))

    def test_all_small_boards(self):
        for rows, columns in boards_of(9):
            for goal in pictures_of(rows, columns):
                self.assertEqual(layers(goal), plain_layers(goal))


class Starts(GoalsTest):
    def test_against_all_lists_of_small_boards(self):
        for rows, columns in boards_of(6):
            pictures = pictures_of(rows, columns)
            for start in pictures:
                ways = ways_from(start)
                for goal in pictures:
                    with self.subTest(start=start, goal=goal):
                        lines = shortest(start, goal)
                        self.assertIs(comes(start, goal), goal in ways)
                        self.assertEqual(fewest(start, goal), ways.get(goal))
                        if lines is not None:
                            self.assertEqual(painted(start, list(lines)), goal)
                            self.assertEqual(len(lines), ways[goal])
                            self.assert_in_order(goal, lines)
                        self.assertEqual(lines is None, goal not in ways)

    def assert_in_order(self, goal, lines):
        """The last layer comes first, and lines of a layer ascend."""
        places = [(-at, line) for at, layer in enumerate(layers(goal)) for line in layer if line in lines]
        self.assertEqual(lines, tuple(line for _, line in sorted(places)))
        self.assertIs(type(lines), tuple)

    def test_few_and_all(self):
        white = ("...",) * 3
        self.assertEqual(shortest(white, white), ())
        self.assertEqual(shortest(("###",) * 3, white), (3, 4, 5))
        self.assertEqual(shortest(white, ("###", "...", "###")), (0, 2))
        self.assertEqual(shortest(("...", "..#", "..."), ("###", "...", "...")), (5, 0))
        # All lines but the column that shows nowhere; of the other start fewer.
        stairs = ("#..", "##.", "###")
        self.assertEqual(shortest(("..#", "...", "..."), stairs), (0, 4, 1, 5, 2))
        self.assertEqual(shortest(("#.#", "##.", "..."), stairs), (5, 2))
        self.assertIsNone(shortest(("#..", "...", "..."), (".#.", "#..", "...")))
        self.assertIsNone(fewest(("#..", "...", "..."), (".#.", "#..", "...")))

    def test_greater_boards(self):
        dice = Dice(11)
        coming = 0
        for _ in range(1500):
            rows, columns = 1 + dice.below(20), 1 + dice.below(20)
            start = made_picture(dice, rows, columns)
            goal = start if dice.below(3) == 0 else made_picture(dice, rows, columns)
            if dice.below(2):
                goal = painted_plainly(start, [dice.below(rows + columns) for _ in range(dice.below(30))])
            lines = shortest(start, goal)
            self.assertIs(comes(start, goal), lines is not None)
            if lines is not None:
                coming += 1
                self.assertEqual(painted_plainly(start, lines), goal)
                self.assertEqual(fewest(start, goal), len(lines))
                self.assert_in_order(goal, lines)
                # No line can be left out.
                for at in range(len(lines)):
                    self.assertNotEqual(painted_plainly(start, lines[:at] + lines[at + 1:]), goal)
        self.assertGreater(coming, 700)

    def test_what_strokes_have_made_comes(self):
        dice = Dice(12)
        for _ in range(500):
            start = made_picture(dice, 8, 8)
            strokes = [dice.below(16) for _ in range(dice.below(40))]
            goal = painted_plainly(start, strokes)
            self.assertIs(comes(start, goal), True)
            self.assertLessEqual(fewest(start, goal), len(set(strokes)))


class Written(GoalsTest):
    def assert_ends_well(self, text, start):
        """The run uses few enough ticks and ends well; return (picture, lines, numbers said)."""
        answer = run(text, start, 5000)
        self.assertIn(answer[3], ("done", "stopped"))
        return answer[:3]

    def assert_goal(self, text, goal, start):
        few = fewest(start, goal)
        with self.subTest(goal=goal, start=start):
            picture, lines, said = self.assert_ends_well(text, start)
            if few is None:
                self.assertEqual((picture, lines, said), (start, (), (-1,)))
            else:
                self.assertEqual((picture, len(lines), said), (goal, few, (few,)))

    def assert_goals(self, goals, start, texts):
        first, nearest = texts
        few = [fewest(start, goal) for goal in goals]
        coming = [number for number, count in enumerate(few) if count is not None]
        with self.subTest(goals=goals, start=start):
            self.assert_choice(first, goals, start, few, coming[0] if coming else None)
            coming.sort(key=lambda at: few[at])
            self.assert_choice(nearest, goals, start, few, coming[0] if coming else None)

    def assert_choice(self, text, goals, start, few, chosen):
        picture, lines, said = self.assert_ends_well(text, start)
        if chosen is None:
            self.assertEqual((picture, lines, said), (start, (), (0,)))
        else:
            self.assertEqual((picture, len(lines), said), (goals[chosen], few[chosen], (chosen + 1,)))


class OneGoal(Written):
    def test_all_goals_and_starts_of_small_boards(self):
        for rows, columns in boards_of(6):
            pictures = pictures_of(rows, columns)
            for goal in pictures:
                text = program_for(goal)
                self.assertIs(type(text), str)
                self.assertIs(is_good(text), True)
                for start in pictures:
                    self.assert_goal(text, goal, start)

    def test_greater_boards(self):
        dice = Dice(21)
        for _ in range(60):
            rows, columns = 1 + dice.below(8), 1 + dice.below(8)
            if dice.below(2):
                rows = columns = 8
            goal = made_picture(dice, rows, columns)
            text = program_for(goal)
            self.assertIs(is_code(code(text)), True)
            for _ in range(12):
                self.assert_goal(text, goal, made_picture(dice, rows, columns))
                # A start of which the goal comes, for sure.
                start = goal
                for layer in layers(goal):
                    for line in layer:
                        start = self.scribbled(dice, start, line)
                self.assertIs(comes(start, goal), True)
                self.assert_goal(text, goal, start)

    def scribbled(self, dice, picture, line):
        """Return a picture with some cells of a line put otherwise."""
        rows = len(picture)
        cells = [list(row) for row in picture]
        for other in range(rows + len(picture[0])):
            if (other < rows) != (line < rows) and dice.below(9) == 0:
                cells[min(line, other)][max(line, other) - rows] = "#."[dice.below(2)]
        return tuple("".join(row) for row in cells)

    def test_the_code_runs_alike(self):
        for goal in (("#..", "##.", "###"), ("#.", ".#"), ("##", "..")):
            text = program_for(goal)
            for start in pictures_of(len(goal), len(goal[0])):
                self.assertEqual(execute(code(text), start, 5000), run(text, start, 5000))
                self.assertLessEqual(ticks_of(text, start, 20000), 5000)


class SeveralGoals(Written):
    def test_all_pairs_of_small_boards(self):
        for rows, columns in ((1, 1), (1, 2), (2, 1), (1, 3), (2, 2)):
            pictures = pictures_of(rows, columns)
            for one in pictures:
                for other in pictures:
                    texts = program_for_first((one, other)), program_for_nearest((one, other))
                    for start in pictures:
                        self.assert_goals((one, other), start, texts)

    def test_one_to_four_goals(self):
        dice = Dice(31)
        for _ in range(60):
            rows, columns = 1 + dice.below(3), 1 + dice.below(3)
            pictures = pictures_of(rows, columns)
            goals = tuple(dice.one_of(pictures) for _ in range(1 + dice.below(4)))
            texts = program_for_first(goals), program_for_nearest(goals)
            for start in pictures[::1 + len(pictures) // 64]:
                self.assert_goals(goals, start, texts)

    def test_goals_that_come_alike(self):
        goals = (("#.", ".#"), ("##", ".."), ("##", ".."), ("..", "##"))
        texts = program_for_first(goals), program_for_nearest(goals)
        for start in pictures_of(2, 2):
            self.assert_goals(goals, start, texts)
        self.assertEqual(run(texts[1], ("..", ".."), 5000)[:3], (("##", ".."), (0,), (2,)))
        self.assertEqual(run(texts[1], ("..", "##"), 5000)[:3], (("..", "##"), (), (4,)))
        self.assertEqual(run(texts[0], ("..", "##"), 5000)[:3], (("##", ".."), (2, 3, 0), (2,)))

    def test_goals_none_of_which_comes(self):
        goals = (("#.", ".#"), (".#", "#."))
        for text in (program_for_first(goals), program_for_nearest(goals)):
            for start in (("..", ".."), ("##", "##"), ("##", ".#")):
                self.assertEqual(self.assert_ends_well(text, start), (start, (), (0,)))

    def test_greater_boards(self):
        dice = Dice(41)
        for _ in range(40):
            rows = columns = 8
            if dice.below(3) == 0:
                rows, columns = 1 + dice.below(8), 1 + dice.below(8)
            start = made_picture(dice, rows, columns)
            goals = []
            for _ in range(1 + dice.below(4)):
                if dice.below(3):
                    goals.append(painted_plainly(start, [dice.below(rows + columns) for _ in range(dice.below(16))]))
                else:
                    goals.append(made_picture(dice, rows, columns))
            goals = tuple(goals)
            texts = program_for_first(goals), program_for_nearest(goals)
            for text in texts:
                self.assertIs(is_good(text), True)
                self.assertIs(is_code(code(text)), True)
            self.assert_goals(goals, start, texts)
            for _ in range(5):
                self.assert_goals(goals, made_picture(dice, rows, columns), texts)

    def test_arguments_stay_as_they_are(self):
        goals = (("#.", ".#"), ("..", ".."))
        program_for_first(goals)
        program_for_nearest(goals)
        self.assertEqual(goals, (("#.", ".#"), ("..", "..")))
        self.assertEqual(program_for_first(goals), program_for_first(goals))


if __name__ == "__main__":
    unittest.main()
