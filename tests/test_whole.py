"""What the document promises over the whole program: that its parts fit with one another."""

import ast
import pathlib
import unittest

import strokes
from strokes.checks import check, is_good, looks, sizes, unreached
from strokes.codes import code, is_code, orders, read_code, write_code
from strokes.desks import Machine
from strokes.effects import (
    act, alike, always, brings, effect_for, effect_of, is_effect, normal, product, program_of, shortest_lists,
    same_table, table,
)
from strokes.goals import comes, fewest, layers, program_for, program_for_first, program_for_nearest, shortest
from strokes.logs import meet, picture_of, shown, write_run
from strokes.machines import execute, orders_done, round_of, statements_run
from strokes.monoid import all_effects, black_share, bringing, effect_number
from strokes.runs import run, ticks_of
from strokes.shorter import dead_orders, is_short, short_code
from strokes.trees import places, read, tidy
from strokes.words import words
from strokes.worlds import (
    always_makes, as_effect, effect_of_table, ends, makes_best, most_strokes, never_begun, parting, sayings,
)
from tests.programs import boards_of, made_programs, painted_plainly, pictures_of, same_trees

GOOD = ("done", "stopped")
SMALL = ("#.", "..", ".#")


class Runs(unittest.TestCase):
    """A program's run, its code's, its shorter code's, a machine's and that of the program printed anew are alike."""

    def assert_alike(self, text, picture, ticks):
        expected = run(text, picture, ticks)
        machine = Machine(text, picture, ticks)
        machine.go()
        with self.subTest(text, picture=picture, ticks=ticks):
            self.assertEqual(execute(code(text), picture, ticks), expected)
            self.assertEqual(execute(short_code(text), picture, ticks), expected)
            self.assertEqual((machine.board, machine.strokes, machine.spoken, machine.outcome), expected)
            self.assertEqual(machine.done, orders_done(code(text), picture, ticks))
            self.assertLessEqual(orders_done(short_code(text), picture, ticks), machine.done)
            self.assertEqual(run(tidy(text), picture, ticks), expected)
            self.assertEqual(painted_plainly(picture, expected[1]), expected[0])
            self.assertLessEqual(ticks_of(text, picture, ticks), ticks)
            self.assertEqual(ticks_of(tidy(text), picture, ticks), ticks_of(text, picture, ticks))
        return expected

    def test_made_programs(self):
        for start, (tree, text) in enumerate(made_programs(250)):
            picture = (SMALL, ("#",), ("..##",))[start % 3]
            for ticks in (0, 3, 25, 150):
                self.assert_alike(text, picture, ticks)

    def test_programs_written_from_pictures(self):
        for goal in (("#..", "##.", "###"), ("#.", ".#"), ("##", ".."), ("#.#", "#.#")):
            texts = program_for(goal), program_for_first((goal, goal[::-1])), program_for_nearest((goal[::-1], goal))
            for text in texts:
                for start in pictures_of(len(goal), len(goal[0]))[::7]:
                    self.assertIn(self.assert_alike(text, start, 5000)[3], GOOD)

    def test_programs_of_effects(self):
        for effect in all_effects(2, 3):
            for start in pictures_of(2, 3)[::9]:
                answer = self.assert_alike(program_of(2, 3, effect), start, 50)
                self.assertEqual(answer, (act(start, effect), effect, (), "done"))


class Texts(unittest.TestCase):
    def test_programs_codes_and_their_texts(self):
        for tree, text in made_programs(250):
            with self.subTest(text):
                self.assertTrue(same_trees(read(tidy(text)), read(text)))
                self.assertEqual([word for _, word in words(tidy(tidy(text)))], [word for _, word in words(tidy(text))])
                check(tidy(text))
                value = code(text)
                self.assertEqual(code(tidy(text)), value)
                self.assertEqual(read_code(write_code(value)), value)
                self.assertEqual(read_code(write_code(short_code(text))), short_code(text))
                self.assertEqual(orders(text), len(value))
                self.assertIs(is_short(short_code(text)), True)
                self.assertEqual(dead_orders(short_code(text)), [])
                self.assertIs(is_code(short_code(text)), True)
                self.assertEqual(len(places(text)), sizes(text)[1])
                self.assertEqual(looks(tidy(text)), looks(text))
                self.assertEqual(unreached(tidy(text)), unreached(text))

    def test_what_is_unreached_is_dead_and_never_begun(self):
        for start, (tree, text) in enumerate(made_programs(250)):
            with self.subTest(text):
                rows, columns = ((1, 1), (2, 2), (1, 3))[start % 3]
                never = never_begun(text, rows, columns, 60)
                self.assertLessEqual(set(unreached(text)), set(never))
                begun = set()
                for picture in pictures_of(rows, columns):
                    begun.update(statements_run(text, picture, 60))
                self.assertEqual(sorted(begun | set(never)), list(range(sizes(text)[1])))
                self.assertEqual(begun & set(never), set())
                told = {number for word, number in short_code(text) if word == "tick"}
                self.assertLessEqual(begun, told)


class Rounds(unittest.TestCase):
    def test_rounds_fit_with_runs(self):
        found = 0
        for tree, text in made_programs(300):
            end = run(text, SMALL, 400)[3]
            answer = round_of(text, SMALL, 400)
            with self.subTest(text):
                if answer is None:
                    continue
                found += 1
                ahead, length = answer
                self.assertEqual(end, "limit")
                self.assertEqual(run(text, SMALL, 3000)[3], "limit")
                # Where the round begins anew the picture is the same.
                pictures = [run(text, SMALL, ahead + length * times)[0] for times in range(4)]
                self.assertEqual(len(set(pictures)), 1)
        self.assertGreater(found, 10)


class Worlds(unittest.TestCase):
    def test_worlds_fit_with_runs_and_effects(self):
        blind = 0
        for start, (tree, text) in enumerate(made_programs(250)):
            rows, columns = ((1, 1), (2, 2), (1, 3), (3, 1))[start % 4]
            told = ends(text, rows, columns, 60)
            starts = pictures_of(rows, columns)
            with self.subTest(text, board=(rows, columns)):
                self.assertEqual(sum(many for _, _, many in told), len(starts))
                self.assertEqual(sum(many for _, many in sayings(text, rows, columns, 60)), len(starts))
                self.assertIsNone(parting(text, tidy(text), rows, columns, 60))
                most, least = most_strokes(text, rows, columns, 60)
                self.assertEqual(len(run(text, least, 60)[1]), most)
                effect = as_effect(text, rows, columns, 60)
                if effect is not None:
                    self.assertIs(is_effect(rows, columns, effect), True)
                    for picture in starts:
                        self.assertEqual(run(text, picture, 60)[0], act(picture, effect))
                    goal = always(rows, columns, effect)
                    if goal is not None:
                        self.assertIsNone(always_makes(text, goal, 60))
                        self.assertEqual(effect_for(goal), effect)
                if not looks(text) and all(end in GOOD for _, end, _ in told):
                    blind += 1
                    self.assertEqual(effect_of(text, rows, columns, 60), effect)
                    self.assertIs(alike(text, program_of(rows, columns, effect), rows, columns, 60), True)
        self.assertGreater(blind, 20)

    def test_written_programs_are_the_best(self):
        for rows, columns in boards_of(4) + [(2, 3)]:
            for goal in pictures_of(rows, columns)[::3]:
                self.assertIsNone(makes_best(program_for(goal), goal, 5000))
                self.assertIsNone(makes_best(program_for_first((goal,)), goal, 5000))
                self.assertIsNone(makes_best(program_for_nearest((goal, goal)), goal, 5000))
                is_always = effect_for(goal) is not None
                self.assertEqual(always_makes(program_for(goal), goal, 5000) is None, is_always)
                if is_always:
                    self.assertEqual(as_effect(program_for(goal), rows, columns, 5000), effect_for(goal))


class Effects(unittest.TestCase):
    def test_effects_fit_with_goals(self):
        for rows, columns in boards_of(4) + [(2, 3)]:
            for goal in pictures_of(rows, columns)[::2]:
                for start in pictures_of(rows, columns)[::3]:
                    found = bringing(start, goal)
                    self.assertEqual(found != [], comes(start, goal))
                    if found:
                        self.assertEqual(min(len(effect) for effect in found), fewest(start, goal))
                        self.assertIn(normal(rows, columns, list(shortest(start, goal))), found)
                    for effect in found:
                        self.assertIs(brings(start, goal, effect), True)
                explained = {line for layer in layers(goal) for line in layer}
                covered = all(row in explained or rows + column in explained
                              for row in range(rows) for column in range(columns))
                self.assertEqual(effect_for(goal) is not None, covered)

    def test_effects_tables_and_products(self):
        effects = all_effects(2, 2)
        for number, effect in enumerate(effects):
            told = table(2, 2, list(effect))
            self.assertEqual(effect_of_table(2, 2, told), effect)
            self.assertEqual(effect_number(2, 2, effect), number)
            self.assertEqual(black_share(2, 2, effect), tuple("".join(told).count(sign) for sign in "#.-"))
            self.assertEqual(len(same_table(2, 2, list(effect))), shortest_lists(2, 2, effect))
            for other in effects:
                text = program_of(2, 2, effect) + "\n" + program_of(2, 2, other)
                self.assertEqual(effect_of(text, 2, 2, 50), product(2, 2, effect, other))


class Logs(unittest.TestCase):
    def test_logs_of_programs(self):
        start = ("..", "##")
        log = ()
        picture = start
        for at, text in enumerate(("row 1 col 2", program_for(("##", "#.")), "for i = 1 to cols { col i row i }")):
            log = write_run(3, start, log, at, text, 5000)
            picture = run(text, picture, 5000)[0]
            self.assertEqual(picture_of(3, start, log), picture)
            self.assertEqual(picture_of(3, start, shown(3, 2, 2, log)), picture)
            lines = [entry[2] for entry in log]
            showing = [entry[2] for entry in shown(3, 2, 2, log)]
            self.assertEqual(normal(2, 2, lines), normal(2, 2, showing))
            self.assertEqual(sorted(showing), sorted(normal(2, 2, lines)))
            self.assertEqual(meet(3, 2, 2, log, shown(3, 2, 2, log)), log)


class Package(unittest.TestCase):
    def test_each_module_is_told_in_the_readme(self):
        folder = pathlib.Path(strokes.__file__).parent
        readme = (folder.parent / "README.md").read_text()
        for name in ("errors boards words trees checks runs codes machines shorter effects monoid goals worlds logs "
                     "desks").split():
            self.assertTrue((folder / (name + ".py")).is_file())
            self.assertIn("`strokes." + name + "`", readme)

    def test_the_package_imports_nothing_from_outside(self):
        folder = pathlib.Path(strokes.__file__).parent
        for file in folder.glob("*.py"):
            for node in ast.walk(ast.parse(file.read_text())):
                self.assertNotIsInstance(node, ast.Import)
                if isinstance(node, ast.ImportFrom) and not node.module.startswith("strokes."):
                    self.assertIn(node.module, ("math", "itertools"))

    def test_every_program_that_is_good_says_so(self):
        for tree, text in made_programs(50, presets=False):
            if is_good(text):
                self.assertIsNone(check(text))


if __name__ == "__main__":
    unittest.main()
