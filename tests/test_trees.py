"""Points 4 and 5, and of point 1 what holds for texts: the heading strokes/trees.py."""

import unittest

import strokes.trees
from strokes.errors import InvalidText, NotText
from strokes.trees import places, read, tidy
from tests.programs import OTHERS, made_programs, same_trees, unmarked

FUNCTIONS = (read, places, tidy)
ONE = ("num", 1)
TWO = ("num", 2)
THREE = ("num", 3)
A, B, C, D = [("name", name) for name in "abcd"]


def parsed(text):
    """Return the tree of an expression."""
    definitions, statements = read("say " + text)
    assert definitions == () and len(statements) == 1
    word, tree = statements[0]
    assert word == "say"
    return tree


class TreesTest(unittest.TestCase):
    def assert_statements(self, text, *statements):
        with self.subTest(text):
            self.assertEqual(read(text), ((), statements))

    def assert_tree(self, text, tree):
        with self.subTest(text):
            self.assertEqual(parsed(text), tree)

    def assert_same(self, text, other):
        with self.subTest(text):
            self.assertEqual(parsed(text), parsed(other))

    def assert_invalid(self, marked):
        """The text with a mark @ ahead of the word (or the end) that must be told."""
        text, (place,) = unmarked(marked)
        for function in FUNCTIONS:
            with self.subTest(text, function=function.__name__):
                with self.assertRaises(InvalidText) as caught:
                    function(text)
                self.assertEqual(caught.exception.place, place)
                self.assertIs(type(caught.exception.place), int)


class TheInterface(TreesTest):
    def test_the_functions_are_defined_in_the_file(self):
        for function in FUNCTIONS:
            self.assertEqual(function.__module__, "strokes.trees")
            self.assertIs(getattr(strokes.trees, function.__name__), function)

    def test_the_examples(self):
        self.assertEqual(read("row 1 + 2 * rows"), ((), (("row", ("+", ONE, ("*", TWO, ("rows",)))),)))
        self.assertEqual(
            read("def f(x) { say -x } do f(2)"),
            ((("f", ("x",), (("say", ("neg", ("name", "x"))),)),), (("do", "f", (TWO,)),)),
        )
        self.assertEqual(places("row 1\n  col 2"), [1, 9])
        self.assertEqual(tidy("if 1{row 1}else{col 1}"), "if 1 {\n  row 1\n} else {\n  col 1\n}")
        self.assert_invalid("row 1 @2")

    def test_the_arguments_by_name(self):
        self.assertEqual(read(text="stop"), ((), (("stop",),)))
        self.assertEqual(places(text="stop"), [1])
        self.assertEqual(tidy(text=" stop"), "stop")

    def test_the_empty_text(self):
        for text in ("", " ", "\n", " \n \n"):
            self.assertEqual(read(text), ((), ()))
            self.assertEqual(places(text), [])
            self.assertEqual(tidy(text), "")

    def test_no_string(self):
        for value in OTHERS:
            for function in FUNCTIONS:
                with self.subTest(repr(value), function=function.__name__):
                    with self.assertRaises(NotText):
                        function(value)

    def test_returned_lists_are_new(self):
        first = places("row 1 col 2")
        first.append(0)
        self.assertEqual(places("row 1 col 2"), [1, 7])

    def test_trees_are_tuples_throughout(self):
        text = "def f(a, b) { } def g() { if 1 { stop } } do f(1, 2) while 1 { } "
        text += "for i = 1 to 2 { say -black(1, not 2) } let x = rows"
        waiting = [read(text)]
        while waiting:
            value = waiting.pop()
            self.assertIn(type(value), (tuple, str, int))
            if isinstance(value, tuple):
                waiting.extend(value)


class Statements(TreesTest):
    def test_row_col_and_say(self):
        for word in ("row", "col", "say"):
            self.assert_statements(word + " 1", (word, ONE))
            self.assert_statements(word + " a or b", (word, ("or", A, B)))
            self.assert_statements(word + "(1)", (word, ONE))
            self.assert_statements(word + " -1", (word, ("neg", ONE)))

    def test_numbers(self):
        self.assert_statements("say 0", ("say", ("num", 0)))
        self.assert_statements("say 999999", ("say", ("num", 999999)))

    def test_let(self):
        self.assert_statements("let a = 1", ("let", "a", ONE))
        self.assert_statements("let a = a = b", ("let", "a", ("=", A, B)))
        self.assert_statements("let abcdefghijkl=not 1", ("let", "abcdefghijkl", ("not", ONE)))

    def test_if(self):
        self.assert_statements("if 1 { }", ("if", ONE, (), ()))
        self.assert_statements("if 1 { stop }", ("if", ONE, (("stop",),), ()))
        self.assert_statements("if 1 { stop } else { }", ("if", ONE, (("stop",),), ()))
        self.assert_statements("if 1 { } else { stop }", ("if", ONE, (), (("stop",),)))
        self.assert_statements("if a { row 1 } else { row 2 col 3 }",
                               ("if", A, (("row", ONE),), (("row", TWO), ("col", THREE))))

    def test_an_else_belongs_to_the_block_ahead_of_it(self):
        inner = ("if", TWO, (), (("stop",),))
        self.assert_statements("if 1 { if 2 { } else { stop } }", ("if", ONE, (inner,), ()))
        self.assert_statements("if 1 { if 2 { } } else { stop }", ("if", ONE, (("if", TWO, (), ()),), (("stop",),)))
        self.assert_statements("if 1 { } else { if 2 { } else { stop } }", ("if", ONE, (), (inner,)))

    def test_while(self):
        self.assert_statements("while 1 { }", ("while", ONE, ()))
        self.assert_statements("while a < b { let a = b }", ("while", ("<", A, B), (("let", "a", B),)))

    def test_for(self):
        self.assert_statements("for a = 1 to 2 { }", ("for", "a", ONE, TWO, ()))
        self.assert_statements("for a = b + 1 to not c { row a stop }",
                               ("for", "a", ("+", B, ONE), ("not", C), (("row", A), ("stop",))))
        self.assert_statements("for a = 1 = 2 to 1 = 3 { }", ("for", "a", ("=", ONE, TWO), ("=", ONE, THREE), ()))

    def test_do(self):
        self.assert_statements("do f()", ("do", "f", ()))
        self.assert_statements("do f(1)", ("do", "f", (ONE,)))
        self.assert_statements("do f(1, (2), a or b)", ("do", "f", (ONE, TWO, ("or", A, B))))

    def test_stop(self):
        self.assert_statements("stop", ("stop",))
        self.assert_statements("stop stop", ("stop",), ("stop",))

    def test_statements_behind_one_another(self):
        self.assert_statements("say 1 say -2 say 3", ("say", ONE), ("say", ("neg", TWO)), ("say", THREE))
        self.assert_statements("say 1-2say(3)", ("say", ("-", ONE, TWO)), ("say", THREE))
        self.assert_statements("let a=1let b=2", ("let", "a", ONE), ("let", "b", TWO))
        self.assert_statements("row rows col cols", ("row", ("rows",)), ("col", ("cols",)))

    def test_blocks_within_blocks(self):
        self.assert_statements("while 1 { for a = 1 to 2 { if a { do f() } stop } row 1 } col 2", (
            "while", ONE, (("for", "a", ONE, TWO, (("if", A, (("do", "f", ()),), ()), ("stop",))), ("row", ONE)),
        ), ("col", TWO))

    def test_whatever_stands_between_words(self):
        self.assertEqual(read("\n\nif\n1{row\n 1}\n  else\n{ }\n"), read("if 1 { row 1 }"))


class Definitions(TreesTest):
    def assert_definitions(self, text, *definitions):
        with self.subTest(text):
            self.assertEqual(read(text), (definitions, ()))

    def test_arguments(self):
        self.assert_definitions("def f() { }", ("f", (), ()))
        self.assert_definitions("def f(a) { }", ("f", ("a",), ()))
        self.assert_definitions("def f(c, a, b) { }", ("f", ("c", "a", "b"), ()))

    def test_blocks(self):
        self.assert_definitions("def f(a) { row a stop }", ("f", ("a",), (("row", A), ("stop",))))

    def test_several(self):
        self.assert_definitions("def g() { do f() } def f() { do g() }",
                                ("g", (), (("do", "f", ()),)), ("f", (), (("do", "g", ()),)))

    def test_ahead_of_statements(self):
        self.assertEqual(read("def f() { } row 1"), ((("f", (), ()),), (("row", ONE),)))

    def test_names_that_an_argument_and_a_definition_share(self):
        self.assert_definitions("def f(f) { let f = f }", ("f", ("f",), (("let", "f", ("name", "f")),)))
        self.assert_definitions("def f(a, b) { } def a(b, f) { }", ("f", ("a", "b"), ()), ("a", ("b", "f"), ()))


class Expressions(TreesTest):
    def test_parts(self):
        self.assert_tree("1", ONE)
        self.assert_tree("a", A)
        self.assert_tree("rows", ("rows",))
        self.assert_tree("cols", ("cols",))
        self.assert_tree("black(1, a)", ("black", ONE, A))
        self.assert_tree("black(1 or 2, not a)", ("black", ("or", ONE, TWO), ("not", A)))
        self.assert_tree("-1", ("neg", ONE))
        self.assert_tree("(1)", ONE)
        self.assert_tree("((a))", A)

    def test_each_mark(self):
        for mark in ("or", "and", "<", "<=", "=", "!=", "+", "-", "*", "/", "mod"):
            self.assert_tree("a " + mark + " b", (mark, A, B))
            self.assert_tree("(a)" + mark + "(b)", (mark, A, B))

    def test_what_binds_less(self):
        levels = (("or",), ("and",), ("<", "<=", "=", "!="), ("+", "-"), ("*", "/", "mod"))
        for least, marks in enumerate(levels):
            for outer in marks:
                for more in levels[least + 1:]:
                    for inner in more:
                        self.assert_tree(f"a {outer} b {inner} c", (outer, A, (inner, B, C)))
                        self.assert_tree(f"a {inner} b {outer} c", (outer, (inner, A, B), C))
                        self.assert_tree(f"(a {outer} b) {inner} c", (inner, (outer, A, B), C))
                        self.assert_tree(f"a {inner} (b {outer} c)", (inner, A, (outer, B, C)))

    def test_marks_of_a_level_from_the_left(self):
        for marks in (("or",), ("and",), ("+", "-"), ("*", "/", "mod")):
            for first in marks:
                for second in marks:
                    self.assert_tree(f"a {first} b {second} c", (second, (first, A, B), C))
                    self.assert_tree(f"a {first} (b {second} c)", (first, A, (second, B, C)))
        self.assert_tree("a - b + c - d", ("-", ("+", ("-", A, B), C), D))

    def test_comparisons_in_brackets(self):
        for first in ("<", "<=", "=", "!="):
            for second in ("<", "<=", "=", "!="):
                self.assert_tree(f"(a {first} b) {second} c", (second, (first, A, B), C))
                self.assert_tree(f"a {first} (b {second} c)", (first, A, (second, B, C)))
                self.assert_tree(f"a {first} b and c {second} d", ("and", (first, A, B), (second, C, D)))

    def test_not(self):
        self.assert_tree("not a", ("not", A))
        self.assert_tree("not not a", ("not", ("not", A)))
        for mark in ("<", "<=", "=", "!=", "+", "-", "*", "/", "mod"):
            self.assert_tree(f"not a {mark} b", ("not", (mark, A, B)))
            self.assert_tree(f"not not a {mark} b", ("not", ("not", (mark, A, B))))
            self.assert_tree(f"(not a) {mark} b", (mark, ("not", A), B))
            self.assert_tree(f"a {mark} (not b)", (mark, A, ("not", B)))
        for mark in ("and", "or"):
            self.assert_tree(f"not a {mark} b", (mark, ("not", A), B))
            self.assert_tree(f"a {mark} not b", (mark, A, ("not", B)))
            self.assert_tree(f"not a {mark} not b", (mark, ("not", A), ("not", B)))
            self.assert_tree(f"not (a {mark} b)", ("not", (mark, A, B)))
        self.assert_tree("not (a) < b", ("not", ("<", A, B)))

    def test_a_minus_ahead_of_a_part(self):
        self.assert_tree("--a", ("neg", ("neg", A)))
        self.assert_tree("a--b", ("-", A, ("neg", B)))
        self.assert_tree("a---b", ("-", A, ("neg", ("neg", B))))
        self.assert_tree("a - b", ("-", A, B))
        for mark in ("or", "and", "<", "<=", "=", "!=", "+", "-", "*", "/", "mod"):
            self.assert_tree(f"-a {mark} b", (mark, ("neg", A), B))
            self.assert_tree(f"a {mark} -b", (mark, A, ("neg", B)))
            self.assert_tree(f"-(a {mark} b)", ("neg", (mark, A, B)))
        self.assert_tree("-black(1, -2)", ("neg", ("black", ONE, ("neg", TWO))))
        self.assert_tree("-rows", ("neg", ("rows",)))
        self.assert_tree("not -a", ("not", ("neg", A)))
        self.assert_tree("-(not a)", ("neg", ("not", A)))

    def test_all_levels(self):
        self.assert_same("a or b and not c < 1 + 2 * -d", "a or (b and (not (c < (1 + (2 * (-d))))))")
        self.assert_same("-a * 1 + 2 < b and c or d", "(((((-a) * 1) + 2) < b) and c) or d")

    def test_made_programs(self):
        for tree, text in made_programs(150, presets=False):
            with self.subTest(text):
                self.assertEqual(read(text), tree)


class InvalidStatements(TreesTest):
    def test_no_statement(self):
        for text in ("@}", "@{ }", "@1", "@x", "@(", "@to", "@rows", "@black(1, 1)", "@not 1", "@= 1", "@,", "@-1",
                     "@else { }", "row 1 @}", "row 1 @x", "stop @1", "stop @(", "if 1 { } @}", "if 1 { @1 }", "@f()",
                     "do f() @(", "do f() @1", "let x = 1 @y = 2"):
            self.assert_invalid(text)

    def test_row_col_and_say(self):
        for word in ("row", "col", "say"):
            for rest in ("@", " @stop", " @row 1", " @{", " @}", " @)", " @,", " @=", " @to", " @else", " @def",
                         " 1 @2", " 1 @x", " x @1", " x @y", " x@(1)", " 1@,", " 1@)", " 1 @{", " 1 @else"):
                self.assert_invalid(word + rest)

    def test_let(self):
        for rest in ("@", " @1 = 2", " @row = 1", " @= 1", " x@", " x @1", " x @<= 1", " x @let y = 1", " x =@",
                     " x = @= 1", " x = @let y = 1", " x = 1 @2", "@(x) = 1", " x@, y = 1"):
            self.assert_invalid("let" + rest)

    def test_if(self):
        for rest in ("@", " @{ }", " 1@", " 1 @row 1", " 1 @else { }", " 1 {@", " 1 { row 1@", " 1 { @else { }",
                     " 1 { } else@", " 1 { } else @row 1", " 1 { } else @if 1 { }", " 1 { } else {@",
                     " 1 { } else { } @else { }", " 1 { row 1 @2 }", " 1 { } else { row @}"):
            self.assert_invalid("if" + rest)

    def test_while(self):
        for rest in ("@", " @{ }", " 1@", " 1 @say 1", " 1 {@", " 1 { stop@", " 1 { } @else { }", " 1 { @{ } }"):
            self.assert_invalid("while" + rest)

    def test_for(self):
        for rest in ("@", " @1 = 1 to 2 { }", " @to = 1 to 2 { }", " i@", " i @to 1 { }", " i @< 1", " i =@",
                     " i = @to 1 { }", " i = 1@", " i = 1 @{ }", " i = 1 @, 2 { }", " i = 1 to@", " i = 1 to @{ }",
                     " i = 1 to 2@", " i = 1 to 2 @stop", " i = 1 to 2 @to 3 { }", " i = 1 to 2 {@",
                     " i = 1 to 2 { } @else { }"):
            self.assert_invalid("for" + rest)

    def test_do(self):
        for rest in ("@", " @1()", " @row()", " @()", " f@", " f @1", " f @row 1", " f @{ }", " f(@", " f(1@",
                     " f(1 @2)", " f(1,@)", " f(1, 2,@)", " f(@,)", " f(@, 1)", " f(1,@, 2)", " f(@stop)", " f(1,@",
                     " f(1@}", " f(1 @stop"):
            self.assert_invalid("do" + rest)

    def test_definitions(self):
        for rest in ("@", " @1() { }", " @row() { }", " @() { }", " f@", " f @{ }", " f @a", " f(@", " f(@1) { }",
                     " f(@,a) { }", " f(@row) { }", " f(@-a) { }", " f(a@", " f(a @b) { }", " f(a,@) { }", " f(a, @1)",
                     " f(a, @not)", " f(a,@, b)", " f()@", " f() @row 1", " f() @f() { }", " f() {@", " f() { stop@",
                     " f() { @def g() { } }", " f() { } @1", " f() { } @}", " f() { } @else { }"):
            self.assert_invalid("def" + rest)

    def test_definitions_behind_statements(self):
        self.assert_invalid("row 1 @def f() { }")
        self.assert_invalid("def f() { } row 1 @def g() { }")
        self.assert_invalid("if 1 { @def f() { } }")
        self.assert_invalid("stop @def f() { }")

    def test_a_name_of_a_definition_told_before(self):
        self.assert_invalid("def f() { } def @f() { }")
        self.assert_invalid("def f() { } def g() { } def @f(a, b) { }")
        self.assert_invalid("def f() { } def g() { } def @g() { }")
        self.assert_invalid("def f() { } def @f")
        self.assert_invalid("def f() { } def @f(1, 2) } {")
        self.assert_invalid("def f(a) { } def @f(b, b) { }")

    def test_a_name_of_an_argument_told_twice(self):
        self.assert_invalid("def f(a, a@) { }")
        self.assert_invalid("def f(a, b, a@) { }")
        self.assert_invalid("def f(a, a, b@) { }")
        self.assert_invalid("def f(b, a, a, a  @) { }")
        self.assert_invalid("def f(a, a@) } row 1 2")
        self.assert_invalid("def g(a) { } def f(a, a@) { }")

    def test_words_that_cannot_stand_ahead_of_such_a_bracket(self):
        self.assert_invalid("def f(a, a, @1) { }")
        self.assert_invalid("def f(a, a @b) { }")
        self.assert_invalid("def f(a, a,@) { }")
        self.assert_invalid("def f(a, a@")
        self.assert_invalid("def f(a, a @{ }")


class InvalidExpressions(TreesTest):
    def test_nothing_behind_a_mark(self):
        for mark in ("or", "and", "<", "<=", "=", "!=", "+", "-", "*", "/", "mod"):
            self.assert_invalid(f"say a {mark}@")
            self.assert_invalid(f"say a {mark} @* b")
            self.assert_invalid(f"say a {mark} @stop")
            self.assert_invalid(f"say (a {mark} @)")

    def test_nothing_ahead_of_a_mark(self):
        for mark in ("or", "and", "<", "<=", "=", "!=", "+", "*", "/", "mod"):
            self.assert_invalid(f"say @{mark} a")
            self.assert_invalid(f"say (@{mark} a)")
            self.assert_invalid(f"say -@{mark} a")
            self.assert_invalid(f"say not @{mark} a")

    def test_comparisons_in_a_row(self):
        for first in ("<", "<=", "=", "!="):
            for second in ("<", "<=", "=", "!="):
                self.assert_invalid(f"say a {first} b @{second} c")
                self.assert_invalid(f"say (a {first} b @{second} c)")
                self.assert_invalid(f"say not a {first} b @{second} c")
                self.assert_invalid(f"say a {first} b + 1 @{second} c")
                self.assert_invalid(f"say d or a {first} b @{second} c")
        self.assert_invalid("let a = b = c @= d")
        self.assert_invalid("do f(a < b @< c)")

    def test_not_where_it_binds_too_little(self):
        for mark in ("<", "<=", "=", "!=", "+", "-", "*", "/", "mod"):
            self.assert_invalid(f"say a {mark} @not b")
        self.assert_invalid("say -@not b")
        self.assert_invalid("say not -@not b")
        self.assert_invalid("say a @not b")

    def test_brackets(self):
        for text in ("(@)", "(@", "(1@", "(1 @2)", "(1@, 2)", "(1)@)", "((1)@", "(@row)", "1 + (2 @(3))", "(1 @{",
                     "(1 @stop", "1 + (@)"):
            self.assert_invalid("say " + text)

    def test_looks(self):
        for text in ("black@", "black @1", "black@, 1", "black(@", "black(@)", "black(@, 1)", "black(1@", "black(1@)",
                     "black(1 @2)", "black(1,@", "black(1,@)", "black(1, 1@", "black(1, 1@, 1)", "black(1, 1 @1)",
                     "black(1, 1) @1", "black(1, 1)@(1, 1)", "black @black(1, 1)"):
            self.assert_invalid("say " + text)

    def test_rows_and_cols_are_parts_alone(self):
        for word in ("rows", "cols"):
            self.assert_invalid(f"say {word}@(1)")
            self.assert_invalid(f"say {word} @1")
            self.assert_invalid(f"say a @{word}")
            self.assert_invalid(f"let @{word} = 1")
            self.assert_invalid(f"do @{word}()")

    def test_minus_signs(self):
        for text in ("-@", "--@", "1 -@", "-@+ 1", "-@)", "1 - - @* 2"):
            self.assert_invalid("say " + text)


class InvalidTexts(TreesTest):
    def test_the_end_of_a_text_behind_spaces(self):
        self.assert_invalid("row  @")
        self.assert_invalid("row\n\n@")
        self.assert_invalid("if 1 { row 1 \n @")

    def test_words_behind_spaces(self):
        self.assert_invalid("row 1\n\n  @2")
        self.assert_invalid("\n @x")

    def test_the_text_is_cut_into_words_first(self):
        self.assert_invalid("row 1 2 @A")
        self.assert_invalid("} } @1234567")
        self.assert_invalid("say say @012")
        self.assert_invalid("def f() { } def f() { } @abcdefghijklm")
        self.assert_invalid("row @!")
        self.assert_invalid("row 1 @; row 2")

    def test_long_texts(self):
        self.assertEqual(read("stop" + " " * 99996), ((), (("stop",),)))
        self.assert_invalid("row" + " " * 99997 + "@")
        for text in ("stop" + " " * 99997, "A" * 100001, "row 1 2" * 20000):
            for function in FUNCTIONS:
                with self.assertRaises(InvalidText) as caught:
                    function(text)
                self.assertEqual(caught.exception.place, 100001)


class CutTexts(TreesTest):
    def test_what_goes_on_is_told_at_its_end_or_can_be_read(self):
        for tree, text in made_programs(25, presets=False):
            shown = tidy(text)
            for end in [end for end in range(len(shown)) if shown[end] in " \n"]:
                with self.subTest(shown[:end]):
                    try:
                        read(shown[:end])
                    except InvalidText as error:
                        self.assertEqual(error.place, end + 1)

    def test_no_place_is_ahead_of_the_first_wrong_word(self):
        for tree, text in made_programs(25, presets=False):
            shown = tidy(text)
            for at in [at for at in range(len(shown)) if shown[at] in " \n"]:
                for word in ("else", "to", "}", "def", ",", "=", "1"):
                    with self.subTest(shown, at=at, word=word):
                        try:
                            read(shown[:at] + " " + word + " " + shown[at:])
                        except InvalidText as error:
                            self.assertGreaterEqual(error.place, at + 2)


class Nests(TreesTest):
    def assert_nest(self, opening, closing, word):
        text = "say " + opening * 30 + "1" + closing * 30
        tree = parsed(text[4:])
        if word is not None:
            for _ in range(30):
                self.assertEqual(tree[0], word)
                tree = tree[1]
        self.assertEqual(tree, ONE)
        self.assertEqual(places(text), [1])
        self.assertEqual(read(tidy(text)), read(text))

    def test_expressions(self):
        self.assert_nest("(", ")", None)
        self.assert_nest("-", "", "neg")
        self.assert_nest("not ", "", "not")
        self.assert_nest("black(", ", 2)", "black")

    def test_brackets_that_are_needed(self):
        text = "a or b and c < 1 + 2 * (" * 30 + "1 + 2" + ")" * 30
        tree = parsed(text)
        for _ in range(30):
            self.assertEqual(tree[0], "or")
            tree = tree[2][2][2][2][2]
        self.assertEqual(tree, ("+", ONE, TWO))
        self.assertEqual(tidy("say " + text), "say " + text)

    def test_blocks(self):
        for head in ("if 1", "while 1", "for i = 1 to 2", "if 1 { } else"):
            text = (head + " {") * 30 + "stop" + "}" * 30
            block = read(text)[1]
            for _ in range(30):
                block = block[0][-1] if head != "if 1" else block[0][2]
            self.assertEqual(block, (("stop",),))
            self.assertEqual(len(places(text)), 31)
            self.assertEqual(read(tidy(text)), read(text))

    def test_all_of_them_within_one_another(self):
        text = "def f() {" + "while 1 {" * 9 + "say " + "not (-(" * 5 + "black(1, " * 5 + "1" + ")" * 15 + "}" * 10
        self.assertEqual(read(tidy(text)), read(text))
        self.assertEqual(len(places(text)), 10)

    def test_what_stands_beside_one_another_is_no_nest(self):
        for part in ("(2)", "-2", "not 2", "black(2, 2)", "not -(2)"):
            tree = parsed(" and ".join([part] * 500))
            for _ in range(499):
                self.assertEqual(tree[0], "and")
                self.assertEqual(tree[2], parsed(part))
                tree = tree[1]
            self.assertEqual(tree, parsed(part))
            deep = "say " + " and ".join([part] * 500) + " and " + "(" * 5000 + "1" + ")" * 5000
            self.assert_read_or_invalid(deep)
        text = "if 1 { while 2 { } } else { for i = 1 to 2 { } } "
        self.assertEqual(read(text * 500), ((), read(text)[1] * 500))
        self.assert_read_or_invalid(text * 500 + "while 1 {" * 2000 + "}" * 2000)
        names = ["bcdfghjklm"[at // 10] + "bcdfghjklm"[at % 10] for at in range(100)]
        self.assertEqual(len(read("".join(f"def {name}() {{ }}" for name in names))[0]), 100)

    def assert_read_or_invalid(self, text):
        for function in FUNCTIONS:
            try:
                function(text)
            except InvalidText:
                pass

    def test_more_raise_no_other_error(self):
        for many in (31, 32, 35, 50, 1000, 9000):
            for opening, closing in (("(", ")"), ("-", ""), ("not ", ""), ("black(", ", 1)")):
                self.assert_read_or_invalid("say " + opening * many + "1" + closing * many)
            self.assert_read_or_invalid("if 1 {" * many + "}" * many)


class LongPrograms(TreesTest):
    def test_long_sums(self):
        for mark in ("+", "-", "*", "/", " mod ", " or ", " and "):
            many = 90000 // (len(mark) + 1)
            text = "say 1" + (mark + "2") * many
            tree = parsed(text[4:])
            for _ in range(many):
                self.assertEqual(tree[0], mark.strip())
                self.assertEqual(tree[2], TWO)
                tree = tree[1]
            self.assertEqual(tree, ONE)
            self.assertEqual(places(text), [1])

    def test_long_sums_printed_anew(self):
        text = "say 1" + " + 2 * 3 < 4 or 5 - 6" * 3000
        self.assertEqual(tidy(text), text)
        self.assertEqual(tidy("say(" + text[4:].replace(" ", "\n") + ")"), text)
        self.assertTrue(same_trees(read(tidy(text)), read(text)))

    def test_long_programs(self):
        text = "\n".join(["row 1"] * 16000)
        self.assertEqual(read(text), ((), (("row", ONE),) * 16000))
        self.assertEqual(places(text), list(range(1, 96001, 6)))
        self.assertEqual(tidy(text.replace("\n", " ")), text)

    def test_many_blocks_beside_one_another(self):
        text = "\n".join(["if 1 {\n}"] * 9000)
        self.assertEqual(len(read(text)[1]), 9000)
        self.assertEqual(tidy(text), text)

    def test_many_definitions(self):
        names = ["".join("bcdfghjklm"[int(sign)] for sign in str(number)) for number in range(3000)]
        text = "\n".join(f"def {name}() {{\n}}" for name in names)
        self.assertEqual([name for name, arguments, block in read(text)[0]], names)
        self.assertEqual(tidy(text), text)
        self.assert_invalid(text + " def @cdfg() { }")

    def test_many_arguments(self):
        names = ["".join("bcdfghjklm"[int(sign)] for sign in str(number)) for number in range(3000)]
        self.assertEqual(read("def f(" + ",".join(names) + "){}"), ((("f", tuple(names), ()),), ()))
        self.assertEqual(read("do f(" + ",".join(["1"] * 3000) + ")"), ((), (("do", "f", (ONE,) * 3000),)))


class Places(TreesTest):
    def assert_places(self, marked):
        text, expected = unmarked(marked)
        with self.subTest(text):
            self.assertEqual(places(text), expected)

    def test_each_statement(self):
        self.assert_places("@row 1 @col 2 @say 3 @let x = 4 @do f() @stop")
        self.assert_places("@if 1 { } @while 1 { } @for i = 1 to 2 { }")

    def test_blocks(self):
        self.assert_places("@if 1 { @row 1 @row 2 } else { @row 3 } @row 4")
        self.assert_places("@if 1 { } else { @row 1 }")
        self.assert_places("@while 1 { @if 1 { @stop } @stop } @stop")
        self.assert_places("@for i = 1 to 2 { @for j = 1 to 2 { @row i } @row j }")

    def test_definitions(self):
        self.assert_places("def f() { @row 1 @if 1 { @stop } } def g() { } def h(a) { @say a } @do f() @do g()")

    def test_whatever_stands_between_the_words(self):
        self.assert_places("\n\n  @row\n1\n@row 2   @row(3)@row 4\n")
        self.assert_places("@if 1{@row 1}else{@row(2)@row 3}@stop")

    def test_numbers_and_names_are_no_statements(self):
        self.assert_places("@let x = rows @say x + rows @say cols")


class Tidy(TreesTest):
    def assert_tidy(self, text, *lines):
        with self.subTest(text):
            self.assertEqual(tidy(text), "\n".join(lines))
            self.assertEqual(tidy("\n".join(lines)), "\n".join(lines))

    def assert_shown(self, text, shown):
        self.assert_tidy("say " + text, "say " + shown)

    def test_statements_without_blocks(self):
        self.assert_tidy("row(1)col 2say\n3let x=4stop", "row 1", "col 2", "say 3", "let x = 4", "stop")

    def test_calls(self):
        self.assert_tidy("do f ( )", "do f()")
        self.assert_tidy("do f ( 1 )", "do f(1)")
        self.assert_tidy("do f(1,2 ,( 3 ))", "do f(1, 2, 3)")
        self.assert_tidy("do f(1or 2,not 3)", "do f(1 or 2, not 3)")

    def test_blocks(self):
        self.assert_tidy("while 1{row 1 row 2}", "while 1 {", "  row 1", "  row 2", "}")
        self.assert_tidy("for i=1to 2{row i}", "for i = 1 to 2 {", "  row i", "}")
        self.assert_tidy("if 1{row 1}", "if 1 {", "  row 1", "}")
        self.assert_tidy("if 1{row 1}stop", "if 1 {", "  row 1", "}", "stop")

    def test_else(self):
        self.assert_tidy("if 1{row 1}else{row 2}", "if 1 {", "  row 1", "} else {", "  row 2", "}")
        self.assert_tidy("if 1{row 1}else{}", "if 1 {", "  row 1", "}")
        self.assert_tidy("if 1{}else{row 2}", "if 1 {", "} else {", "  row 2", "}")

    def test_empty_blocks(self):
        self.assert_tidy("if 1{}", "if 1 {", "}")
        self.assert_tidy("if 1{}else{}", "if 1 {", "}")
        self.assert_tidy("while 1{}", "while 1 {", "}")
        self.assert_tidy("for i=1 to 2{}", "for i = 1 to 2 {", "}")
        self.assert_tidy("def f(){}", "def f() {", "}")

    def test_blocks_within_blocks(self):
        self.assert_tidy(
            "while 1{if 2{for i=1 to 3{row i}stop}else{if 4{}else{say 5}}col 6}",
            "while 1 {",
            "  if 2 {",
            "    for i = 1 to 3 {",
            "      row i",
            "    }",
            "    stop",
            "  } else {",
            "    if 4 {",
            "    } else {",
            "      say 5",
            "    }",
            "  }",
            "  col 6",
            "}",
        )

    def test_definitions(self):
        self.assert_tidy("def f ( ) { row 1 } def g(a ,b){do f()}do g(1,2)",
                         "def f() {", "  row 1", "}", "def g(a, b) {", "  do f()", "}", "do g(1, 2)")
        self.assert_tidy("def f(a){while a{stop}}", "def f(a) {", "  while a {", "    stop", "  }", "}")

    def test_spaces_around_marks(self):
        for mark in ("<", "<=", "=", "!=", "+", "-", "*", "/"):
            self.assert_shown(f"a{mark}b", f"a {mark} b")
            self.assert_shown(f"a  {mark}\n b", f"a {mark} b")
        for key in ("mod", "and", "or"):
            self.assert_shown(f"a  {key}\nb", f"a {key} b")
            self.assert_shown(f"1{key}(b)", f"1 {key} b")

    def test_spaces_in_parts(self):
        self.assert_shown("black ( 1 ,2 )", "black(1, 2)")
        self.assert_shown("- a", "-a")
        self.assert_shown("- - a", "--a")
        self.assert_shown("- ( a+b )", "-(a + b)")
        self.assert_shown("not  a", "not a")
        self.assert_shown("not(a)", "not a")
        self.assert_shown("not not a", "not not a")
        self.assert_shown("a--b", "a - -b")
        self.assert_shown("-black(1,-1)", "-black(1, -1)")
        self.assert_shown("( rows )*cols", "rows * cols")
        self.assert_shown("black(rows,cols)", "black(rows, cols)")
        self.assert_tidy("let x=-1", "let x = -1")
        self.assert_tidy("for i=-1to-(2+3){}", "for i = -1 to -(2 + 3) {", "}")
        self.assert_tidy("if(1){}while(not 1){}", "if 1 {", "}", "while not 1 {", "}")

    def test_brackets_that_are_needed(self):
        levels = (("or",), ("and",), ("<", "<=", "=", "!="), ("+", "-"), ("*", "/", "mod"))
        for least, marks in enumerate(levels):
            for outer in marks:
                for inner in [mark for more in levels[least + 1:] for mark in more]:
                    self.assert_shown(f"(a {inner} b) {outer} (c {inner} d)", f"a {inner} b {outer} c {inner} d")
                    for text in (f"(a {outer} b) {inner} c", f"a {inner} (b {outer} c)"):
                        self.assert_shown(text, text)
                for inner in marks:
                    text = f"a {outer} (b {inner} c)"
                    self.assert_shown(text, text)
                    if least == 2:
                        self.assert_shown(f"(a {outer} b) {inner} c", f"(a {outer} b) {inner} c")
                    else:
                        self.assert_shown(f"(a {outer} b) {inner} c", f"a {outer} b {inner} c")

    def test_brackets_around_not_and_behind_it(self):
        for mark in ("<", "<=", "=", "!=", "+", "-", "*", "/", "mod"):
            self.assert_shown(f"not(a {mark} b)", f"not a {mark} b")
            self.assert_shown(f"(not a) {mark} b", f"(not a) {mark} b")
            self.assert_shown(f"a {mark} (not b)", f"a {mark} (not b)")
        for mark in ("and", "or"):
            self.assert_shown(f"(not a) {mark} (not b)", f"not a {mark} not b")
            self.assert_shown(f"not (a {mark} b)", f"not (a {mark} b)")
        self.assert_shown("-(not a)", "-(not a)")
        self.assert_shown("not(-a)", "not -a")
        self.assert_shown("not(not a)", "not not a")

    def test_brackets_behind_a_minus(self):
        for mark in ("or", "and", "<", "<=", "=", "!=", "+", "-", "*", "/", "mod"):
            self.assert_shown(f"-(a {mark} b)", f"-(a {mark} b)")
            self.assert_shown(f"(-a) {mark} (-b)", f"-a {mark} -b")
        self.assert_shown("-(-(a))", "--a")
        self.assert_shown("-(black(1, 2))", "-black(1, 2)")

    def test_brackets_that_are_not_needed(self):
        self.assert_shown("((1))", "1")
        self.assert_shown("(a)+((b))", "a + b")
        self.assert_shown("((a*b)+c)<(d)", "a * b + c < d")
        self.assert_tidy("row((1))col(2)let x=((3))if(a<b){}while(a or b){}for i=(1)to(2+3){}do f((1),(2))",
                         "row 1", "col 2", "let x = 3", "if a < b {", "}", "while a or b {", "}",
                         "for i = 1 to 2 + 3 {", "}", "do f(1, 2)")
        self.assert_shown("black((1),(a or b))", "black(1, a or b)")

    def test_several_brackets_of_one_row(self):
        self.assert_shown("((a + b) * c - d) / 2", "((a + b) * c - d) / 2")
        self.assert_shown("((a < b) < c) < d", "((a < b) < c) < d")
        self.assert_shown("((a or b) and c or d) * 2 or 3", "((a or b) and c or d) * 2 or 3")

    def test_made_programs(self):
        for tree, text in made_programs(150, presets=False):
            with self.subTest(text):
                shown = tidy(text)
                self.assertEqual(read(shown), tree)
                self.assertEqual(tidy(shown), shown)
                self.assertEqual(len(places(shown)), len(places(text)))

    def test_each_bracket_of_made_programs_is_needed(self):
        for tree, text in made_programs(60, presets=False):
            shown = tidy(text)
            for opening, closing in brackets_of(shown):
                without = shown[:opening] + " " + shown[opening + 1:closing] + " " + shown[closing + 1:]
                with self.subTest(shown, opening=opening):
                    try:
                        self.assertNotEqual(read(without), tree)
                    except InvalidText:
                        pass


def brackets_of(text):
    """Return the list of the pairs of indexes of the brackets of a text."""
    found = []
    opened = []
    for at, sign in enumerate(text):
        if sign == "(":
            opened.append(at)
        elif sign == ")":
            found.append((opened.pop(), at))
    return found


if __name__ == "__main__":
    unittest.main()
