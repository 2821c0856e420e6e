"""[4] texts of conditions."""

import itertools
import unittest

from noneorsome.condition_texts import read_condition
from noneorsome.conditions import Condition
from noneorsome.errors import BadText
from tests.raising import RaisingCase

X = Condition.of("x")
Y = Condition.of("y")
Z = Condition.of("z")
ALWAYS = Condition.always()
NEVER = Condition.never()

# What a text must come to, written as the brackets of Python tell it.
WRITTEN = [
    (X, "x"),
    (ALWAYS, "always"),
    (NEVER, "never"),
    (~X, "not x"),
    (~ALWAYS, "not always"),
    (~~X, "not not x"),
    (~~~X, "not not not x"),
    (X & Y, "x and y"),
    (X | Y, "x or y"),
    (Y & X, "y and x"),
    (X & X, "x and x"),
    (X & ALWAYS, "x and always"),
    (NEVER | X, "never or x"),
    (X & (Y & Z), "x and y and z"),
    ((X & Y) & Z, "x and y and z"),
    (X | (Y | Z), "x or y or z"),
    ((X | Y) | Z, "x or y or z"),
    ((X & Y) | Z, "x and y or z"),
    (X | (Y & Z), "x or y and z"),
    ((X | Y) & Z, "(x or y) and z"),
    (X & (Y | Z), "x and (y or z)"),
    ((X | Y) & (Y | Z), "(x or y) and (y or z)"),
    ((X & Y) | (Y & Z), "x and y or y and z"),
    (~(X & Y), "not (x and y)"),
    (~(X | Y), "not (x or y)"),
    (~~(X | Y), "not not (x or y)"),
    (~X & Y, "not x and y"),
    (X & ~Y, "x and not y"),
    (~X | ~Y, "not x or not y"),
    (~(~X), "not not x"),
    (~(~X & ~Y), "not (not x and not y)"),
    (~(X & Y) & Z, "not (x and y) and z"),
    (~(X | Y) | Z, "not (x or y) or z"),
    (Z & ~(X | Y), "z and not (x or y)"),
    (~((X | Y) & Z), "not ((x or y) and z)"),
    (~(X | Y & Z), "not (x or y and z)"),
    (((X | Y) & Z) | X, "(x or y) and z or x"),
    (((X & Y) | Z) & X, "(x and y or z) and x"),
    ((X & Y | Z) & (X | Y & Z), "(x and y or z) and (x or y and z)"),
    (X & (Y & (X | Z)), "x and y and (x or z)"),
]


class Writing(unittest.TestCase):
    def test_written_texts(self):
        for condition, text in WRITTEN:
            with self.subTest(text):
                self.assertEqual(str(condition), text)
                self.assertIs(type(str(condition)), str)

    def test_reading_gives_the_condition_back(self):
        for condition, text in WRITTEN:
            with self.subTest(text):
                self.assertEqual(str(read_condition(text)), text)
                self.assertEqual(read_condition(text), condition)

    def test_every_condition_of_a_small_size(self):
        for condition in self.small_conditions():
            again = read_condition(str(condition))
            self.assertEqual(str(again), str(condition))
            self.assertEqual(again, condition)

    def small_conditions(self):
        grown = [X, Y, ALWAYS]
        for _ in range(2):
            pairs = list(itertools.product(grown[:25], repeat=2))
            grown = grown + [~one for one in grown] + [a & b for a, b in pairs] + [a | b for a, b in pairs]
        return grown


class Reading(RaisingCase):
    def test_more_parentheses_than_needed(self):
        for text, plain in [
            ("(x)", "x"), ("((x))", "x"), ("not (x)", "not x"), ("(not x)", "not x"), ("(x and y) and z", "x and y and z"),
            ("x or (y and z)", "x or y and z"), ("not (not (x))", "not not x"), ("((x) or (y)) and (z)", "(x or y) and z"),
            ("((always))", "always"),
        ]:
            with self.subTest(text):
                self.assertEqual(str(read_condition(text)), plain)

    def test_spaces(self):
        for text, plain in [
            ("  x  ", "x"), ("x  and   y", "x and y"), ("(x)and(y)", "x and y"), ("not(x)", "not x"), ("( x or y )and z", "(x or y) and z"),
            ("  not  ( x  ) ", "not x"), ("(x)or not(y)", "x or not y"),
        ]:
            with self.subTest(text):
                self.assertEqual(str(read_condition(text)), plain)

    def test_operators_bind_as_told(self):
        self.assertEqual(read_condition("not x and y"), ~X & Y)
        self.assertEqual(read_condition("not x or y"), ~X | Y)
        self.assertEqual(read_condition("x or y and z"), X | (Y & Z))
        self.assertEqual(read_condition("x and y or z"), (X & Y) | Z)
        self.assertEqual(read_condition("not x and y or z and not y"), ((~X) & Y) | (Z & (~Y)))

    def test_words_that_begin_like_operators_are_names(self):
        self.assertEqual(read_condition("notx").names(), ["notx"])
        self.assertEqual(str(read_condition("andy or orx and nots")), "andy or orx and nots")

    def test_a_word_of_eight_letters(self):
        self.assertEqual(str(read_condition("abcdefgh")), "abcdefgh")

    def test_the_first_token_that_cannot_stand_there(self):
        for text, at in [
            (")", 0), ("and", 0), ("or x", 0), ("  or x", 2), ("x y", 2), ("x  (", 3), ("x not y", 2), ("x always", 2),
            ("x never", 2), ("x )", 2), ("(x))", 3), ("()", 1), ("( )", 2), ("not and", 4), ("not or x", 4), ("not )", 4),
            ("x and and y", 6), ("x and or", 6), ("x or )", 5), ("(x and ) y", 7), ("(x)(y)", 3), ("(x) y", 4), ("x(y)", 1),
            ("(or", 1), ("always never", 7), ("here and or", 9),
        ]:
            with self.subTest(text):
                self.assert_raises(BadText(at), read_condition, text)

    def test_words_that_are_too_long(self):
        for text, at in [
            ("abcdefghi", 0), (" abcdefghi", 1), ("x and abcdefghi", 6), ("x abcdefghi", 2), ("not abcdefghi or", 4),
            ("x and y or (abcdefghijklmnop)", 12), ("andandandand", 0),
        ]:
            with self.subTest(text):
                self.assert_raises(BadText(at), read_condition, text)

    def test_characters_that_begin_no_token(self):
        for text, at in [
            ("X", 0), ("x\ty", 1), ("x\n", 1), ("\nx", 0), ("x & y", 2), ("x1", 1), ("1x", 0), ("x and 1", 6), ("x and -y", 6),
            ("heRe", 2), ("x_y", 1), ("[x]", 0), ("x and \xe4", 6), ("~x", 0), ("x.", 1), ("x or y!", 6), ("(x]", 2), ("`", 0), ("{", 0),
        ]:
            with self.subTest(text):
                self.assert_raises(BadText(at), read_condition, text)

    def test_the_first_of_several_faults_counts(self):
        self.assert_raises(BadText(2), read_condition, "x y Z and")
        self.assert_raises(BadText(1), read_condition, "(! abcdefghi")
        self.assert_raises(BadText(6), read_condition, "x and ) (")

    def test_texts_that_end_too_early(self):
        for text in [
            "", " ", "     ", "not", "not ", "x and", "x and ", "x or not", "(", "(x", "(x ", "((x)", "not (here", "x and (y or z",
            "not not", "(x and y) or (", "x or",
        ]:
            with self.subTest(text):
                self.assert_raises(BadText(len(text)), read_condition, text)

    def test_nesting_to_the_limit_and_somewhat_beyond(self):
        for depth in [30, 55]:
            with self.subTest(depth):
                self.assertEqual(str(read_condition("(" * depth + "x" + ")" * depth)), "x")
                self.assertEqual(str(read_condition("not " * depth + "x")), "not " * depth + "x")
                deep = "not (x and " * depth + "y" + ")" * depth
                self.assertEqual(str(read_condition(deep)), deep)
                deep = "(x or y and " * depth + "z" + ")" * depth
                self.assertEqual(read_condition(deep).names(), ["x", "y", "z"])
                self.assert_raises(BadText(depth), read_condition, "(" * depth)
                self.assert_raises(BadText(2 * depth + 1), read_condition, "(" * depth + "x" + ")" * depth + ")")

    def test_a_long_text(self):
        text = " and ".join(["x"] * 180)
        self.assertEqual(str(read_condition(text)), text)
        text = " " * 1500 + "x" + " " * 1500
        self.assertEqual(str(read_condition(text)), "x")
        self.assert_raises(BadText(3000), read_condition, " " * 3000)

    def test_the_argument_has_its_listed_name(self):
        self.assertEqual(str(read_condition(text="x")), "x")


if __name__ == "__main__":
    unittest.main()
