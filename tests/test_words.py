"""Tests of caughtnames.words: promises 2, 4, 7, 12 and 13."""

import inspect
import unittest

from caughtnames import words
from caughtnames.words import is_integer, is_name, is_parameter, parse_integer, split_words
from samples import values_of_every_kind

THIRTY = 10 ** 29
KEYWORDS = ["let", "in", "each", "of", "want"]


class Interface(unittest.TestCase):
    def test_signatures(self):
        for name, signature in [
            ("is_integer", "(value, low, high)"), ("is_name", "(value)"), ("is_parameter", "(value)"),
            ("parse_integer", "(text, *, low=0, high=999)"), ("split_words", "(text)"),
        ]:
            function = getattr(words, name)
            self.assertEqual(str(inspect.signature(function)), signature)
            self.assertEqual(function.__module__, "caughtnames.words")

    def test_arguments_by_name(self):
        self.assertIs(is_integer(value=2, low=1, high=3), True)
        self.assertIs(is_integer(high=1, value=2, low=1), False)
        self.assertIs(is_name(value="a"), True)
        self.assertIs(is_parameter(value="?a"), True)
        self.assertEqual(parse_integer(text="5"), 5)
        self.assertEqual(split_words(text="a b"), ["a", "b"])

    def test_limits_of_parse_integer_only_by_name(self):
        self.assertRaises(TypeError, parse_integer, "5", 0, 9)

    def test_example_of_the_document(self):
        found = [is_name("let"), is_name("lets"), is_parameter("?a"),
                 parse_integer("07"), parse_integer("70"), split_words("a  b")]
        self.assertEqual(found, [False, True, True, None, 70, None])


class IsInteger(unittest.TestCase):
    def test_bounds(self):
        for value, expected in [(4, False), (5, True), (6, True), (7, True), (8, False)]:
            self.assertIs(is_integer(value, 5, 7), expected, value)

    def test_bounds_below_zero(self):
        for value, expected in [(-4, False), (-3, True), (0, True), (2, True), (3, False)]:
            self.assertIs(is_integer(value, -3, 2), expected, value)

    def test_one_value(self):
        self.assertIs(is_integer(5, 5, 5), True)
        self.assertIs(is_integer(4, 5, 5), False)

    def test_low_greater_than_high(self):
        for value in (4, 5, 6, 7, 8):
            self.assertIs(is_integer(value, 7, 5), False)

    def test_thirty_digits(self):
        self.assertIs(is_integer(THIRTY, THIRTY, THIRTY), True)
        self.assertIs(is_integer(THIRTY - 1, THIRTY, THIRTY + 1), False)
        self.assertIs(is_integer(-THIRTY, -THIRTY, 0), True)
        self.assertIs(is_integer(-THIRTY - 1, -THIRTY, 0), False)

    def test_truth_values_are_no_integers(self):
        for value in (True, False):
            self.assertIs(is_integer(value, -1, 2), False)

    def test_other_values(self):
        for value in values_of_every_kind():
            expected = isinstance(value, int) and not isinstance(value, bool)
            self.assertIs(is_integer(value, -THIRTY, THIRTY), expected, value)

    def test_values_within_lists_do_not_count(self):
        for value in ([1], (1,), {1: 1}, "1"):
            self.assertIs(is_integer(value, 0, 9), False)


class IsName(unittest.TestCase):
    def test_lengths(self):
        for value, expected in [("", False), ("a", True), ("z", True), ("ab", True),
                                ("abcdef", True), ("zzzzzz", True), ("abcdefg", False)]:
            self.assertIs(is_name(value), expected, value)

    def test_keywords_are_no_names(self):
        for word in KEYWORDS:
            self.assertIs(is_name(word), False, word)

    def test_words_near_the_keywords_are_names(self):
        for word in KEYWORDS:
            for near in (word + "s", "a" + word, word[:-1], word[1:]):
                self.assertIs(is_name(near), True, near)

    def test_other_signs(self):
        for value in ("A", "aB", "a1", "1", "a ", " a", "a\n", "\n", "a_b", "a-b", "a.b", "?a", "$a",
                      "a{", "`a", "\u00e9", "a\u0131", "\u00df"):
            self.assertIs(is_name(value), False, value)

    def test_keywords_with_other_letters(self):
        self.assertIs(is_name("Let"), False)
        self.assertIs(is_name("LET"), False)

    def test_other_values(self):
        for value in values_of_every_kind():
            self.assertIs(is_name(value), isinstance(value, str) and value == "a", value)


class IsParameter(unittest.TestCase):
    def test_signs_ahead_of_names(self):
        for name in ("a", "h", "abcdef", "lets", "le"):
            for sign in ("?", "$"):
                self.assertIs(is_parameter(sign + name), True, sign + name)

    def test_signs_ahead_of_no_names(self):
        for name in KEYWORDS + ["", "abcdefg", "A", "a1", " a", "a ", "a\n", "?", "$"]:
            for sign in ("?", "$"):
                self.assertIs(is_parameter(sign + name), False, sign + name)

    def test_signs_twice(self):
        for value in ("??a", "$$a", "?$a", "$?a"):
            self.assertIs(is_parameter(value), False, value)

    def test_names_without_a_sign(self):
        for value in ("a", "abcdef", "", "let", "a?", "a$", "!a", "#a", "&a", " ?a", "\n?a"):
            self.assertIs(is_parameter(value), False, value)

    def test_other_values(self):
        for value in values_of_every_kind():
            self.assertIs(is_parameter(value), isinstance(value, str) and value in ("?a", "$a"), value)

    def test_sign_and_name_apart(self):
        for value in (["?", "a"], ("?", "a"), ("$", "n"), ("?a",), ["?a"]):
            self.assertIs(is_parameter(value), False, value)


class ParseInteger(unittest.TestCase):
    def test_ordinary(self):
        for number in (0, 1, 7, 9, 10, 70, 100, 998, 999):
            self.assertEqual(parse_integer(str(number)), number)

    def test_zero_is_an_integer(self):
        found = parse_integer("0")
        self.assertEqual(found, 0)
        self.assertNotIsInstance(found, bool)

    def test_default_bounds(self):
        self.assertEqual(parse_integer("999"), 999)
        self.assertIsNone(parse_integer("1000"))

    def test_leading_zeros(self):
        for text in ("00", "07", "000", "0070"):
            self.assertIsNone(parse_integer(text), text)

    def test_other_signs(self):
        for text in ("+7", "-7", "-0", "+0", " 7", "7 ", "7\n", "\n7", "", " ", "\n", "7a", "a", "1_0", "1 0",
                     "7.0", "1e2", "0x7", "\u0667", "\u00b2"):
            self.assertIsNone(parse_integer(text), text)

    def test_sign_ahead_with_low_below_zero(self):
        self.assertIsNone(parse_integer("-7", low=-10, high=10))

    def test_thirty_digits(self):
        text = "1" + "0" * 29
        self.assertIsNone(parse_integer(text))
        self.assertEqual(parse_integer(text, high=THIRTY), THIRTY)
        self.assertIsNone(parse_integer(text, high=THIRTY - 1))
        self.assertEqual(parse_integer(text, low=THIRTY, high=THIRTY), THIRTY)
        self.assertIsNone(parse_integer(text, low=THIRTY + 1, high=THIRTY + 2))

    def test_very_long_texts(self):
        for length in (4000, 5000):
            self.assertIsNone(parse_integer("9" * length))
            self.assertIsNone(parse_integer("9" * length, high=THIRTY))

    def test_bounds_met_and_beside(self):
        for text, expected in [("4", None), ("5", 5), ("11", 11), ("12", 12), ("13", None)]:
            self.assertEqual(parse_integer(text, low=5, high=12), expected)

    def test_low_greater_than_high(self):
        for text in ("4", "5", "6", "7", "8"):
            self.assertIsNone(parse_integer(text, low=7, high=5))

    def test_bounds_below_zero(self):
        self.assertEqual(parse_integer("0", low=-5, high=0), 0)
        self.assertEqual(parse_integer("3", low=-5, high=3), 3)
        self.assertIsNone(parse_integer("4", low=-5, high=3))
        for text in ("0", "3", "10"):
            self.assertIsNone(parse_integer(text, low=-500, high=-1))

    def test_values_that_are_no_strings(self):
        for value in values_of_every_kind():
            self.assertIsNone(parse_integer(value, low=-THIRTY, high=THIRTY), value)
        for value in (["7"], ("7",), 7, {"7": 7}):
            self.assertIsNone(parse_integer(value), value)


class SplitWords(unittest.TestCase):
    def test_one_word(self):
        for word in ("a", "Word", "?a,", "-", "a\\b", "'", "let"):
            self.assertEqual(split_words(word), [word])

    def test_several_words(self):
        self.assertEqual(split_words("a b"), ["a", "b"])
        self.assertEqual(split_words("let x = f(a) in x"), ["let", "x", "=", "f(a)", "in", "x"])
        self.assertEqual(split_words("b a b"), ["b", "a", "b"])

    def test_doubled_blanks(self):
        for text in ("a  b", "a b  c", "a   b", "  ", " a  b "):
            self.assertIsNone(split_words(text), text)

    def test_blanks_at_the_ends(self):
        for text in (" a", "a ", " a b", "a b ", " "):
            self.assertIsNone(split_words(text), text)

    def test_line_feeds(self):
        for text in ("\n", "a\n", "\na", "a\nb", "a \n b", "a b\n", " \n"):
            self.assertIsNone(split_words(text), text)

    def test_empty_string(self):
        self.assertIsNone(split_words(""))

    def test_values_that_are_no_strings(self):
        for value in values_of_every_kind():
            if not isinstance(value, str):
                self.assertIsNone(split_words(value), value)
        for value in (["a", "b"], ("a", "b"), {"a": "b"}):
            self.assertIsNone(split_words(value), value)

    def test_each_call_returns_a_new_list(self):
        first = split_words("a b")
        first.append("c")
        self.assertEqual(split_words("a b"), ["a", "b"])


if __name__ == "__main__":
    unittest.main()
