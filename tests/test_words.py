"""Point 3, and of point 1 what holds for texts: the heading strokes/words.py."""

import unittest

import strokes.words
from strokes.errors import InvalidText, NotText
from strokes.words import words

KEYS = "row col let if else while for to do def say stop rows cols black mod and or not".split(" ")
MARKS = "<= != { } ( ) + - * / < = ,".split(" ")
FIGURES = "0123456789"
LETTERS = "abcdefghijklmnopqrstuvwxyz"


class WordsTest(unittest.TestCase):
    def assert_words(self, text, *pairs):
        with self.subTest(text):
            self.assertEqual(words(text), list(pairs))

    def assert_invalid(self, text, place):
        with self.subTest(text[:40], length=len(text)):
            with self.assertRaises(InvalidText) as caught:
                words(text)
            self.assertEqual(caught.exception.place, place)
            self.assertIs(type(caught.exception.place), int)


class TheInterface(WordsTest):
    def test_the_function_is_defined_in_the_file(self):
        self.assertEqual(strokes.words.words.__module__, "strokes.words")

    def test_the_examples(self):
        self.assertEqual(words("row 1+x"), [("key", "row"), ("number", "1"), ("mark", "+"), ("name", "x")])
        self.assert_invalid("row A", 5)

    def test_the_argument_by_name(self):
        self.assertEqual(words(text="x"), [("name", "x")])


class Keys(WordsTest):
    def test_each_key(self):
        self.assertEqual(len(KEYS), 19)
        for key in KEYS:
            self.assert_words(key, ("key", key))

    def test_all_keys_with_spaces_between_them(self):
        self.assertEqual(words(" ".join(KEYS)), [("key", key) for key in KEYS])

    def test_names_that_begin_or_end_with_a_key(self):
        for key in KEYS:
            for name in (key + "x", "x" + key, key + key):
                self.assert_words(name, ("name", name))

    def test_what_is_left_of_a_key(self):
        for key in KEYS:
            for name in (key[:-1], key[1:]):
                if name not in KEYS:
                    self.assert_words(name, ("name", name))

    def test_words_that_are_keys_elsewhere(self):
        for name in ("true", "elif", "return", "in", "column", "white", "div", "xor", "then", "end"):
            self.assert_words(name, ("name", name))


class Marks(WordsTest):
    def test_each_mark(self):
        self.assertEqual(len(MARKS), 13)
        for mark in MARKS:
            self.assert_words(mark, ("mark", mark))

    def test_the_longest_mark_that_fits(self):
        self.assert_words("a<=b", ("name", "a"), ("mark", "<="), ("name", "b"))
        self.assert_words("a!=b", ("name", "a"), ("mark", "!="), ("name", "b"))
        self.assert_words("<==", ("mark", "<="), ("mark", "="))
        self.assert_words("<<=", ("mark", "<"), ("mark", "<="))
        self.assert_words("!==", ("mark", "!="), ("mark", "="))
        self.assert_words("<!=", ("mark", "<"), ("mark", "!="))
        self.assert_words("<=!=<=", ("mark", "<="), ("mark", "!="), ("mark", "<="))

    def test_what_is_no_longer_mark(self):
        self.assert_words("< =", ("mark", "<"), ("mark", "="))
        self.assert_words("<\n=", ("mark", "<"), ("mark", "="))
        self.assert_words("=<", ("mark", "="), ("mark", "<"))
        self.assert_words("==", ("mark", "="), ("mark", "="))
        self.assert_words("--", ("mark", "-"), ("mark", "-"))
        self.assert_words("<", ("mark", "<"))

    def test_marks_one_behind_another(self):
        turned = list(reversed(MARKS))
        self.assertEqual(words("".join(turned)), [("mark", mark) for mark in turned])
        self.assertEqual(words("".join(MARKS)), [("mark", mark) for mark in (*MARKS[:-3], "<=", ",")])

    def test_an_exclamation_mark_alone(self):
        self.assert_invalid("!", 1)
        self.assert_invalid("! =", 1)
        self.assert_invalid("!\n=", 1)
        self.assert_invalid("!!=", 1)
        self.assert_invalid("!<=", 1)
        self.assert_invalid("a!", 2)
        self.assert_invalid("a!b", 2)
        self.assert_invalid("=!", 2)
        self.assert_invalid("!=!", 3)


class Numbers(WordsTest):
    def test_each_figure(self):
        for figure in FIGURES:
            self.assert_words(figure, ("number", figure))

    def test_numbers_of_up_to_six_figures(self):
        for number in ("10", "19", "100", "1000", "90909", "100000", "123456", "999999"):
            self.assert_words(number, ("number", number))

    def test_seven_figures(self):
        self.assert_invalid("1000000", 1)
        self.assert_invalid("1234567", 1)
        self.assert_invalid("9" * 5000, 1)
        self.assert_invalid("row 1234567", 5)
        self.assert_invalid("123456 1234567 x", 8)

    def test_a_leading_0(self):
        for number in ("00", "01", "09", "000000", "012345", "0000001"):
            self.assert_invalid(number, 1)
        self.assert_invalid("say 01", 5)
        self.assert_invalid("1-00", 3)

    def test_0_ahead_of_other_words(self):
        self.assert_words("0 1", ("number", "0"), ("number", "1"))
        self.assert_words("0x", ("number", "0"), ("name", "x"))
        self.assert_words("-0", ("mark", "-"), ("number", "0"))


class Names(WordsTest):
    def test_each_letter(self):
        for letter in LETTERS:
            self.assert_words(letter, ("name", letter))

    def test_names_of_up_to_12_letters(self):
        for name in ("ab", "abcdefghijkl", "mnopqrstuvwx", "zzzzzzzzzzzz"):
            self.assert_words(name, ("name", name))

    def test_13_letters(self):
        self.assert_invalid("abcdefghijklm", 1)
        self.assert_invalid("rowrowrowrowr", 1)
        self.assert_invalid("z" * 5000, 1)
        self.assert_invalid("let abcdefghijklm = 1", 5)
        self.assert_invalid("abcdefghijkl abcdefghijklm", 14)


class Between(WordsTest):
    def test_nothing(self):
        self.assert_words("row1", ("key", "row"), ("number", "1"))
        self.assert_words("1row", ("number", "1"), ("key", "row"))
        self.assert_words("x1y22z", ("name", "x"), ("number", "1"), ("name", "y"), ("number", "22"), ("name", "z"))
        self.assert_words(
            "if(x){col-1}", ("key", "if"), ("mark", "("), ("name", "x"), ("mark", ")"), ("mark", "{"),
            ("key", "col"), ("mark", "-"), ("number", "1"), ("mark", "}"),
        )

    def test_spaces_and_line_ends(self):
        expected = [("key", "row"), ("number", "1"), ("key", "col"), ("name", "x")]
        for text in ("row 1 col x", "row\n1\ncol\nx", "  row   1  col x  ", "\n\nrow 1\n col \n\n x\n", "row1col x"):
            self.assert_words(text, *expected)

    def test_where_they_tell(self):
        self.assert_words("ro w", ("name", "ro"), ("name", "w"))
        self.assert_words("row s", ("key", "row"), ("name", "s"))
        self.assert_words("1 2", ("number", "1"), ("number", "2"))
        self.assert_words("12\n34", ("number", "12"), ("number", "34"))

    def test_no_words(self):
        for text in ("", " ", "\n", "   ", "\n\n\n", " \n \n "):
            self.assert_words(text)


class LongTexts(WordsTest):
    def test_100000_signs(self):
        self.assertEqual(words("row " * 25000), [("key", "row")] * 25000)
        self.assertEqual(words("-" * 100000), [("mark", "-")] * 100000)
        self.assertEqual(words(" " * 99999 + "x"), [("name", "x")])
        self.assertEqual(words(" " * 100000), [])
        self.assertEqual(words("\n" * 100000), [])

    def test_a_wrong_sign_or_word_at_the_end_of_100000(self):
        self.assert_invalid(" " * 99999 + "?", 100000)
        self.assert_invalid("-" * 99998 + "01", 99999)
        self.assert_invalid("x" * 100000, 1)

    def test_100001_signs(self):
        self.assert_invalid("row " * 25000 + "\n", 100001)
        self.assert_invalid("-" * 100001, 100001)
        self.assert_invalid(" " * 100001, 100001)
        self.assert_invalid(" " * 100000 + "x", 100001)
        self.assert_invalid(" " * 100000 + "?", 100001)
        self.assert_invalid("row 1\n" * 50000, 100001)

    def test_a_long_text_is_told_ahead_of_what_stands_in_it(self):
        self.assert_invalid("?" + " " * 100000, 100001)
        self.assert_invalid("x" * 100001, 100001)
        self.assert_invalid("1" * 100001, 100001)


class WrongSigns(WordsTest):
    def test_each_ascii_sign_alone(self):
        allowed = FIGURES + LETTERS + "{}()+-*/<=, \n"
        for number in range(128):
            sign = chr(number)
            if sign not in allowed:
                self.assert_invalid(sign, 1)
                self.assert_invalid("row " + sign, 5)
                self.assert_invalid("a" + sign + "b", 2)
            else:
                with self.subTest(sign):
                    self.assertEqual(len(words(sign)), 0 if sign in " \n" else 1)

    def test_first_in_the_middle_and_last(self):
        for sign in ("A", "Z", "_", ".", ";", "#", "!", "%", "\t", "\r", "\u00e9", "\u0664", "\ud800"):
            self.assert_invalid(sign, 1)
            self.assert_invalid(sign + "row 1", 1)
            self.assert_invalid("row " + sign + " 1", 5)
            self.assert_invalid("row" + sign + "1", 4)
            self.assert_invalid("row 1" + sign, 6)
            self.assert_invalid("\nrow 1\n" + sign, 8)

    def test_capital_letters(self):
        self.assert_invalid("Row 1", 1)
        self.assert_invalid("rOw 1", 2)
        self.assert_invalid("roW 1", 3)
        self.assert_invalid("ROW 1", 1)

    def test_digits_and_letters_of_other_alphabets(self):
        figures = ("\u0660", "\u0967", "\uff11", "\u00b2", "\u2460")
        letters = ("\u03b1", "\u0430", "\u00df", "\u0131", "\uff41")
        for sign in figures + letters:
            self.assert_invalid(sign, 1)
            self.assert_invalid("1" + sign, 2)
            self.assert_invalid("x" + sign, 2)
            self.assert_invalid("say " + sign, 5)

    def test_other_blanks(self):
        for sign in ("\t", "\r", "\x0b", "\x0c", "\x1c", "\x85", "\u00a0", "\u2003", "\u2028", "\u3000", "\ufeff"):
            self.assert_invalid("row" + sign + "1", 4)
            self.assert_invalid("row 1" + sign, 6)
            self.assert_invalid(sign, 1)

    def test_a_sign_above_the_first_65536_is_one_sign(self):
        self.assert_invalid("x \U0001f600", 3)
        self.assert_invalid("\U0001f600 01", 1)

    def test_the_first_of_several_is_told(self):
        self.assert_invalid("x ? 01 !", 3)
        self.assert_invalid("x 01 ? !", 3)
        self.assert_invalid("abcdefghijklm ?", 1)
        self.assert_invalid("x ! abcdefghijklm", 3)


class Values(WordsTest):
    def test_no_string(self):
        for value in (None, True, False, 0, 1, -5, (), ("row",), ("row", "1"), [], ["row 1"], {}, {"row": 1}):
            with self.subTest(repr(value)), self.assertRaises(NotText):
                words(value)

    def test_wrong_arguments_are_not_modified(self):
        for value in (["row 1"], {"row": [1]}):
            before = repr(value)
            self.assertRaises(NotText, words, value)
            self.assertEqual(repr(value), before)

    def test_the_kinds_of_values(self):
        answer = words("row 1 + x")
        self.assertIs(type(answer), list)
        for pair in answer:
            self.assertIs(type(pair), tuple)
            self.assertEqual([type(part) for part in pair], [str, str])

    def test_the_list_is_new(self):
        for text in ("", "row 1"):
            first = words(text)
            expected = list(first)
            self.assertIsNot(words(text), first)
            first.append(("name", "x"))
            self.assertEqual(words(text), expected)


if __name__ == "__main__":
    unittest.main()
