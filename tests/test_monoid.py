"""Point 15, and of point 1 what holds for its values: the heading strokes/monoid.py."""

import unittest

import strokes.monoid
from strokes.effects import act, is_effect, normal, table
from strokes.errors import BadEffect, BadNumber, BadPicture, OtherBoard, TooMany
from strokes.goals import comes, layers
from strokes.monoid import all_effects, black_share, bringing, count_effects, effect_at, effect_number
from tests.programs import (
    NO_PICTURES, NO_SIZES, Dice, assert_error, boards_of, lists_without_repeats, painted_plainly, pictures_of,
)

FUNCTIONS = (count_effects, effect_at, effect_number, all_effects, bringing, black_share)
NO_EFFECTS = (None, 5, True, "0", [], [0], (4,), (-1,), (True,), (0, None), ("0",), ((0,),), {}, (1, 0), (0, 0),
              (0, 2, 3), (2, 3, 0, 1))
SMALL = tuple(boards_of(4)) + ((1, 5), (5, 1), (2, 3), (3, 2), (1, 6), (6, 1))


def effects_of(rows, columns):
    """Return the ascending list of all effects, found by all lists in which no line stands twice."""
    return sorted({normal(rows, columns, lines) for lines in lists_without_repeats(rows, columns)})


class MonoidTest(unittest.TestCase):
    maxDiff = None


class TheInterface(MonoidTest):
    def test_the_functions_are_defined_in_the_file(self):
        for function in FUNCTIONS:
            self.assertEqual(function.__module__, "strokes.monoid")
            self.assertIs(getattr(strokes.monoid, function.__name__), function)

    def test_the_examples(self):
        self.assertEqual(count_effects(2, 2), 27)
        self.assertEqual(effect_at(2, 2, 5), (0, 2))
        self.assertEqual(effect_number(2, 2, (0, 2, 1)), 6)
        self.assertEqual(all_effects(1, 1), [(), (0,), (1,)])
        self.assertEqual(bringing(("..", ".."), ("##", "..")), [(0,), (2, 0), (2, 3, 0), (3, 0)])
        self.assertEqual(black_share(2, 2, (0, 2)), (1, 2, 1))

    def test_the_arguments_by_name(self):
        self.assertEqual(count_effects(rows=1, columns=1), 3)
        self.assertEqual(effect_at(rows=1, columns=1, index=1), (0,))
        self.assertEqual(effect_number(rows=1, columns=1, effect=(0,)), 1)
        self.assertEqual(all_effects(rows=1, columns=1), [(), (0,), (1,)])
        self.assertEqual(bringing(start=("#",), goal=(".",)), [(1,)])
        self.assertEqual(black_share(rows=1, columns=1, effect=(0,)), (1, 0, 0))


class Errors(MonoidTest):
    def test_sizes(self):
        for function, behind in ((count_effects, ()), (effect_at, (0,)), (effect_number, ((),)), (black_share, ((),))):
            for size in NO_SIZES:
                for others in (behind, (None,) * len(behind)):
                    assert_error(self, BadNumber, {}, function, size, 2, *others)
                    assert_error(self, BadNumber, {}, function, 2, size, *others)
            function(1, 20, *behind)
            function(20, 1, *behind)
        for size in NO_SIZES:
            assert_error(self, BadNumber, {}, all_effects, size, 2)
            assert_error(self, BadNumber, {}, all_effects, 2, size)
            # 20 rows alone would be too many.
            assert_error(self, BadNumber, {}, all_effects, 20, size)

    def test_places(self):
        for index in (-1, 27, 28, 10 ** 9, 10 ** 50, -10 ** 50, True, False, None, "5", (5,), [5], {}):
            assert_error(self, BadNumber, {}, effect_at, 2, 2, index)
        self.assertEqual(effect_at(2, 2, 26), all_effects(2, 2)[26])
        self.assertEqual(effect_at(2, 2, 0), ())
        many = count_effects(20, 20)
        assert_error(self, BadNumber, {}, effect_at, 20, 20, many)
        assert_error(self, BadNumber, {}, effect_at, 20, 20, -1)

    def test_effects(self):
        for value in NO_EFFECTS:
            assert_error(self, BadEffect, {}, effect_number, 2, 2, value)
            assert_error(self, BadEffect, {}, black_share, 2, 2, value)

    def test_pictures(self):
        for value in NO_PICTURES:
            for other in (("#",), ("..", ".."), None):
                assert_error(self, BadPicture, {}, bringing, value, other)
                assert_error(self, BadPicture, {}, bringing, other, value)

    def test_other_boards(self):
        for start, goal in ((("..",), (".",)), ((".",), (".", ".")), (("..",), (".", ".")), (("..", ".."), ("..",))):
            assert_error(self, OtherBoard, {}, bringing, start, goal)
        assert_error(self, OtherBoard, {}, bringing, ("." * 20,) * 20, ("." * 20,) * 19)

    def test_too_many(self):
        # 511 and 907 effects, and what makes a board white of which all is left free.
        for rows, columns in ((1, 8), (8, 1), (2, 5), (20, 20), (1, 20)):
            self.assertGreater(count_effects(rows, columns), 500)
            assert_error(self, TooMany, {"most": 500}, all_effects, rows, columns)
        self.assertEqual(len(all_effects(3, 3)), 459)
        self.assertEqual(len(all_effects(1, 7)), 255)
        white = ("." * 9,)
        assert_error(self, TooMany, {"most": 500}, bringing, white, white)
        assert_error(self, TooMany, {"most": 500}, bringing, ("." * 20,) * 20, ("." * 20,) * 20)
        self.assertEqual(len(bringing(("." * 8,), ("." * 8,))), 256)

    def test_500_effects_that_bring_a_picture_and_one_more(self):
        # Columns and rows by turns, of which some may be painted if all of those ahead are.
        for sizes, many in (((8, 7, 6, 5, 4, 3, 1), 500), ((8, 7, 6, 5, 4, 3, 1, 1), 501), ((8, 8), 511), ((8,), 256),
                            ((8, 7, 6, 5, 4, 2, 2), 498)):
            goal = self.stairs(sizes)
            self.assertEqual(tuple(len(layer) for layer in layers(goal))[:-1], sizes)
            with self.subTest(sizes):
                if many > 500:
                    assert_error(self, TooMany, {"most": 500}, bringing, goal, goal)
                else:
                    self.assertEqual(len(bringing(goal, goal)), many)
        # A cell that has to be made otherwise takes away those that leave it.
        goal = self.stairs((8, 7, 6, 5, 4, 3, 1, 1))
        start = ("#" + goal[0][1:],) + goal[1:]
        self.assertEqual(len(bringing(start, goal)), 501 - 128)

    def stairs(self, sizes):
        """Return a goal whose layers are so many columns, so many rows, and so on, and one line more."""
        columns = [at for at, size in enumerate(sizes) if at % 2 == 0 for _ in range(size)]
        rows = [at for at, size in enumerate(sizes) if at % 2 == 1 for _ in range(size)]
        (rows if len(sizes) % 2 else columns).append(len(sizes))
        return tuple("".join("#" if row < column else "." for column in columns) for row in rows)


class AllEffects(MonoidTest):
    def test_against_all_lists_of_small_boards(self):
        for rows, columns in SMALL:
            with self.subTest((rows, columns)):
                found = effects_of(rows, columns)
                self.assertEqual(count_effects(rows, columns), len(found))
                if len(found) <= 500:
                    self.assertEqual(all_effects(rows, columns), found)
                for index, effect in enumerate(found):
                    answer = effect_at(rows, columns, index)
                    self.assertEqual(answer, effect)
                    self.assertEqual([type(answer)] + [type(line) for line in answer], [tuple] + [int] * len(answer))
                    self.assertEqual(effect_number(rows, columns, effect), index)
                    self.assertIs(type(effect_number(rows, columns, effect)), int)

    def test_lists_are_new(self):
        first = all_effects(1, 1)
        first.append(7)
        self.assertEqual(all_effects(1, 1), [(), (0,), (1,)])
        first = bringing(("#",), ("#",))
        first.append(7)
        self.assertEqual(bringing(("#",), ("#",)), [(), (0,)])

    def test_numbers(self):
        # Of one row: each choice of columns, not all, with the row ahead, and each one without it or with it alone.
        for columns in range(1, 21):
            self.assertEqual(count_effects(1, columns), 2 ** (columns + 1) - 1)
            self.assertEqual(count_effects(columns, 1), 2 ** (columns + 1) - 1)
        self.assertEqual([count_effects(2, 2), count_effects(2, 3), count_effects(3, 3)], [27, 91, 459])
        for rows in range(1, 21):
            for columns in range(1, rows):
                self.assertEqual(count_effects(rows, columns), count_effects(columns, rows))
        self.assertIs(type(count_effects(20, 20)), int)

    def test_ascending_on_greater_boards(self):
        for rows, columns in ((20, 20), (20, 3), (1, 20), (7, 12)):
            many = count_effects(rows, columns)
            self.assertEqual(effect_at(rows, columns, 0), ())
            self.assertEqual(effect_at(rows, columns, 1), (0,))
            self.assertEqual(effect_number(rows, columns, ()), 0)
            places = sorted({place * many // 40 + more for place in range(40) for more in range(3)}
                            | {many - 3, many - 2, many - 1})
            effects = [effect_at(rows, columns, place) for place in places]
            self.assertEqual(effects, sorted(effects))
            for place, effect in zip(places, effects):
                self.assertIs(is_effect(rows, columns, effect), True)
                self.assertEqual(effect_number(rows, columns, effect), place)

    def test_the_last_effect(self):
        # Columns and rows by turns, the greatest first, but for the row that would hide the first column.
        for size in (2, 3, 4, 20):
            last = [line for at in range(1, size + 1) for line in (2 * size - at, size - at)][:-1]
            self.assertEqual(effect_at(size, size, count_effects(size, size) - 1), tuple(last))
            self.assertEqual(effect_number(size, size, tuple(last)), count_effects(size, size) - 1)

    def test_made_effects_of_great_boards(self):
        dice = Dice(9)
        for _ in range(100):
            rows, columns = 1 + dice.below(20), 1 + dice.below(20)
            effect = normal(rows, columns, [dice.below(rows + columns) for _ in range(dice.below(60))])
            place = effect_number(rows, columns, effect)
            self.assertEqual(effect_at(rows, columns, place), effect)
            if place > 0:
                self.assertLess(effect_at(rows, columns, place - 1), effect)
            if place + 1 < count_effects(rows, columns):
                self.assertGreater(effect_at(rows, columns, place + 1), effect)


class Bringing(MonoidTest):
    def test_all_starts_and_goals_of_small_boards(self):
        for rows, columns in boards_of(4) + [(1, 5), (5, 1), (2, 3), (3, 2)]:
            effects = effects_of(rows, columns)
            pictures = pictures_of(rows, columns)
            for start in pictures:
                made = {}
                for effect in effects:
                    made.setdefault(painted_plainly(start, effect), []).append(effect)
                for goal in pictures:
                    with self.subTest(start=start, goal=goal):
                        answer = bringing(start, goal)
                        self.assertEqual(answer, made.get(goal, []))
                        self.assertIs(type(answer), list)
                        self.assertEqual(answer != [], comes(start, goal))

    def test_greater_boards(self):
        dice = Dice(10)
        told = 0
        for _ in range(200):
            rows, columns = 1 + dice.below(12), 1 + dice.below(12)
            start = tuple("".join(dice.one_of("#.") for _ in range(columns)) for _ in range(rows))
            goal = painted_plainly(start, [dice.below(rows + columns) for _ in range(dice.below(20))])
            try:
                answer = bringing(start, goal)
            except TooMany:
                continue
            told += 1
            self.assertGreater(len(answer), 0)
            self.assertLessEqual(len(answer), 500)
            self.assertEqual(answer, sorted(set(answer)))
            for effect in answer:
                self.assertIs(is_effect(rows, columns, effect), True)
                self.assertEqual(act(start, effect), goal)
        self.assertGreater(told, 100)

    def test_what_does_not_come(self):
        self.assertEqual(bringing(("..", ".."), ("#.", ".#")), [])
        self.assertEqual(bringing(("." * 20,) * 20, ("#." * 10, ".#" * 10) * 10), [])
        self.assertEqual(bringing(("#.", ".#"), ("#.", ".#")), [()])
        self.assertEqual(bringing(("#." * 10, ".#" * 10) * 10, ("#." * 10, ".#" * 10) * 10), [()])


class Shares(MonoidTest):
    def test_small_boards(self):
        for rows, columns in boards_of(4) + [(2, 3)]:
            for effect in effects_of(rows, columns):
                answer = black_share(rows, columns, effect)
                signs = "".join(table(rows, columns, list(effect)))
                self.assertEqual(answer, (signs.count("#"), signs.count("."), signs.count("-")))
                self.assertEqual([type(answer)] + [type(part) for part in answer], [tuple, int, int, int])

    def test_rows_and_columns_in_every_order(self):
        self.assertEqual(black_share(3, 4, ()), (0, 0, 12))
        self.assertEqual(black_share(3, 4, (0, 2)), (8, 0, 4))
        self.assertEqual(black_share(3, 4, (3, 6)), (0, 6, 6))
        self.assertEqual(black_share(3, 4, (0, 2, 3)), (6, 3, 3))
        self.assertEqual(black_share(3, 4, (3, 0, 2)), (8, 1, 3))
        self.assertEqual(black_share(3, 4, (3, 0, 4, 2)), (7, 3, 2))
        self.assertEqual(black_share(20, 20, tuple(range(39))), (20, 380, 0))


if __name__ == "__main__":
    unittest.main()
