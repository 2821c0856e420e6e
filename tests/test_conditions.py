"""[1] names, and [3] conditions."""

import itertools
import operator
import unittest

from noneorsome.conditions import Condition
from noneorsome.errors import BadName
from tests.raising import RaisingCase

GOOD_NAMES = ["a", "z", "x", "here", "abcdefg", "abcdefgh", "notx", "andor", "nevers", "alway", "o"]
BAD_NAMES = [
    "", "abcdefghi", "and", "or", "not", "always", "never",
    "A", "Here", "herE", "a1", "1", "a b", " a", "a ", "a_b", "_", "-", "a\n", "\n", "(", "\xe4", "\xdf", "`", "{",
]


def subsets(names):
    return [list(some) for size in range(len(names) + 1) for some in itertools.combinations(names, size)]


class Names(RaisingCase):
    def test_names(self):
        for name in GOOD_NAMES:
            with self.subTest(name):
                self.assertEqual(Condition.of(name).names(), [name])
                self.assertEqual(str(Condition.of(name)), name)

    def test_strings_that_are_no_names(self):
        for name in BAD_NAMES:
            with self.subTest(name):
                self.assert_raises(BadName(name), Condition.of, name)

    def test_the_argument_has_its_listed_name(self):
        self.assertEqual(str(Condition.of(name="here")), "here")


class Conditions(RaisingCase):
    def setUp(self):
        self.x = Condition.of("x")
        self.y = Condition.of("y")
        self.z = Condition.of("z")
        self.always = Condition.always()
        self.never = Condition.never()

    def test_a_name(self):
        self.assertIs(self.x(["x"]), True)
        self.assertIs(self.x(["y"]), False)
        self.assertIs(self.x([]), False)

    def test_always_and_never(self):
        for names in subsets("xy"):
            self.assertIs(self.always(names), True)
            self.assertIs(self.never(names), False)

    def test_the_operators_for_every_set(self):
        for names in subsets("xyz"):
            x, y, z = "x" in names, "y" in names, "z" in names
            with self.subTest(names):
                self.assertIs((self.x & self.y)(names), x and y)
                self.assertIs((self.x | self.y)(names), x or y)
                self.assertIs((~self.x)(names), not x)
                self.assertIs((~(self.x & self.y) | self.z)(names), not (x and y) or z)
                self.assertIs((~self.x & (self.y | ~~self.z))(names), not x and (y or z))
                self.assertIs((self.x & self.always)(names), x)
                self.assertIs((self.x & self.never)(names), False)
                self.assertIs((self.x | self.always)(names), True)
                self.assertIs((self.x | self.never)(names), x)

    def test_order_duplicates_and_other_names_have_no_effect(self):
        both = self.x & self.y
        for names in itertools.permutations(["x", "y", "y", "q", "always", "and", "No name"]):
            self.assertIs(both(names), True)
            self.assertIs(both(list(names)), True)
            self.assertIs((both & ~self.z)(names), True)

    def test_reserved_words_in_the_set_have_no_effect(self):
        self.assertIs(self.never(["never"]), False)
        self.assertIs(self.never(["always", "x"]), False)
        self.assertIs((~self.always)(["not", "and"]), False)

    def test_tuples_and_lists(self):
        self.assertIs(self.x(("x", "y")), True)
        self.assertIs(self.x(["x", "y"]), True)
        self.assertIs(self.x(()), False)

    def test_in_is_the_same_as_a_call(self):
        for names in subsets("xy"):
            with self.subTest(names):
                self.assertIs(names in self.x & ~self.y, (self.x & ~self.y)(names))
                self.assertIs(tuple(names) in self.x | self.y, (self.x | self.y)(names))
                self.assertIs(names not in self.x, not self.x(names))

    def test_names_are_ascending_and_stand_once(self):
        condition = self.z & self.x | ~self.z & Condition.of("ab")
        self.assertEqual(condition.names(), ["ab", "x", "z"])
        self.assertEqual(self.always.names(), [])
        self.assertEqual((~self.never | self.always).names(), [])

    def test_names_that_have_no_effect_are_among_the_names(self):
        self.assertEqual((self.x | ~self.x).names(), ["x"])
        self.assertEqual((self.y & self.never).names(), ["y"])

    def test_the_list_of_names_is_of_its_own(self):
        condition = self.x & self.y
        condition.names().clear()
        self.assertEqual(condition.names(), ["x", "y"])

    def test_operators_change_nothing(self):
        one, other = self.x & self.y, self.y | self.z
        one & other, one | other, ~one, one == other, one <= other
        self.assertEqual([str(one), str(other)], ["x and y", "y or z"])

    def test_an_operator_with_the_same_condition_on_both_sides(self):
        either = self.x | self.y
        self.assertEqual(str(either & either), "(x or y) and (x or y)")
        self.assertEqual(str(either | either), "x or y or x or y")


class ComparedConditions(RaisingCase):
    def setUp(self):
        self.x = Condition.of("x")
        self.y = Condition.of("y")

    def test_equal_whatever_the_form(self):
        x, y = self.x, self.y
        for one, other in [
            (x, ~~x), (x & y, y & x), (~(x & y), ~x | ~y), (~(x | y), ~x & ~y),
            (x | ~x, Condition.always()), (x & ~x, Condition.never()), (x | ~x, y | ~y),
            (x & (x | y), x), (x & Condition.always(), x), (~Condition.always(), Condition.never()),
        ]:
            with self.subTest(f"{one} == {other}"):
                self.assertIs(one == other, True)
                self.assertIs(one != other, False)

    def test_not_equal(self):
        x, y = self.x, self.y
        for one, other in [
            (x, y), (x, ~x), (x & y, x | y), (x, x & y), (Condition.always(), Condition.never()),
            (x, Condition.always()), (x, Condition.never()),
        ]:
            with self.subTest(f"{one} != {other}"):
                self.assertIs(one == other, False)
                self.assertIs(one != other, True)

    def test_a_condition_equals_nothing_else(self):
        class Agreeing:
            def __eq__(self, other):
                return True

        for other in ["x", 1, True, None, ["x"], ("x",), object(), Agreeing()]:
            with self.subTest(repr(other)):
                self.assertIs(self.x == other, False)
                self.assertIs(self.x != other, True)

    def test_a_text_or_number_on_the_left(self):
        self.assertIs("x" == self.x, False)
        self.assertIs(1 == self.x, False)
        self.assertIs(1 == Condition.always(), False)
        self.assertIs("x" != self.x, True)

    def test_the_order_for_all_conditions_of_two_names(self):
        x, y = self.x, self.y
        rows = [x & y, x & ~y, ~x & y, ~x & ~y]
        conditions = []
        for some in subsets(rows):
            condition = Condition.never()
            for row in some:
                condition = condition | row
            conditions.append(condition)
        for one, other in itertools.product(conditions, repeat=2):
            held = [(one(names), other(names)) for names in subsets("xy")]
            within = all(after for before, after in held if before)
            equal = all(before == after for before, after in held)
            self.assertIs(one <= other, within)
            self.assertIs(one < other, within and not equal)
            self.assertIs(other >= one, within)
            self.assertIs(other > one, within and not equal)
            self.assertIs(one == other, equal)

    def test_the_order_of_equal_conditions_of_unlike_form(self):
        one, other = self.x, self.x & (self.y | ~self.y)
        self.assertEqual([one <= other, other <= one, one < other, other < one], [True, True, False, False])
        self.assertEqual([one >= other, other >= one, one > other, other > one], [True, True, False, False])

    def test_the_order_beside_unlike_names(self):
        self.assertIs(self.x & self.y <= self.y, True)
        self.assertIs(self.y <= self.x & self.y, False)
        self.assertIs(self.x <= self.y, False)
        self.assertIs(Condition.never() < self.x, True)
        self.assertIs(self.x < Condition.always(), True)

    def test_there_is_no_order_beside_other_things(self):
        for compare in [operator.le, operator.lt, operator.ge, operator.gt]:
            for other in ["x", 1, None]:
                with self.assertRaises(TypeError):
                    compare(self.x, other)

    def test_many_names_and_words(self):
        names = [Condition.of(name) for name in "abcdefghi"]
        some, every = Condition.never(), Condition.always()
        for name in names * 14:
            some = some | name
            every = name & every
        self.assertIs(every < some, True)
        self.assertIs(some == some & some, True)
        self.assertIs(~some <= ~every, True)

    def test_deep_conditions(self):
        deep = self.x
        for _ in range(90):
            deep = ~(deep & self.y) | self.y
        self.assertIs(deep(["y"]), True)
        self.assertEqual(deep.names(), ["x", "y"])
        self.assertIs(deep == deep, True)
        for _ in range(3000):
            deep = ~deep
        self.assertIs(deep(["x", "y"]), True)


if __name__ == "__main__":
    unittest.main()
