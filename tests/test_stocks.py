"""[14] stocks."""

import operator
import unittest

from noneorsome.errors import BadName, BadNumber, Short
from noneorsome.stocks import Stock
from tests.raising import RaisingCase

BIG = 10 ** 30 - 1
NO_NAMES = ["", "and", "never", "Here", "abcdefghi", "a b", "here1"]


class Stocks(RaisingCase):
    def test_numbers(self):
        stock = Stock({"here": 3, "there": BIG, "none": 0})
        self.assertEqual([stock["here"], stock["there"], stock["none"], stock["other"]], [3, BIG, 0, 0])
        self.assertEqual(stock.names(), ["here", "there"])

    def test_no_numbers(self):
        for stock in [Stock(), Stock({}), Stock(numbers=None), Stock({"a": 0, "b": 0})]:
            self.assertEqual([stock.names(), stock["a"]], [[], 0])
            self.assertEqual(stock, Stock())

    def test_any_string_can_be_asked_for(self):
        for name in NO_NAMES:
            self.assertEqual(Stock({"a": 1})[name], 0)

    def test_names_are_ascending(self):
        stock = Stock({"z": 1, "b": 0, "ab": 2, "a": 1})
        self.assertEqual(stock.names(), ["a", "ab", "z"])
        stock.names().clear()
        self.assertEqual(stock.names(), ["a", "ab", "z"])

    def test_the_dict_is_copied(self):
        numbers = {"a": 1}
        stock = Stock(numbers)
        numbers["a"] = 2
        self.assertEqual(stock["a"], 1)
        stock["a"] = 5
        self.assertEqual(numbers, {"a": 2})

    def test_what_does_not_fit_in_the_dict(self):
        for name in NO_NAMES:
            self.assert_raises(BadName(name), Stock, {"a": 1, name: 1, "No": 2})
        for number in [-1, -BIG]:
            self.assert_raises(BadNumber(number), Stock, {"a": 1, "b": number, "c": -3})
        self.assert_raises(BadName("B"), Stock, {"a": -1, "B": 1})

    def test_setting(self):
        stock = Stock({"a": 1})
        stock["a"] = BIG
        stock["b"] = 2
        stock["c"] = 0
        self.assertEqual(stock, Stock({"a": BIG, "b": 2}))
        stock["a"] = 0
        self.assertEqual([stock["a"], stock.names()], [0, ["b"]])
        stock["b"] -= 1
        self.assertEqual(stock["b"], 1)

    def test_setting_what_does_not_fit(self):
        stock = Stock({"a": 1})
        for name in NO_NAMES:
            self.assert_raises(BadName(name), operator.setitem, stock, name, 1)
            self.assert_raises(BadName(name), operator.setitem, stock, name, -1)
            self.assert_raises(BadName(name), operator.setitem, stock, name, 0)
        self.assert_raises(BadNumber(-1), operator.setitem, stock, "a", -1)
        self.assert_raises(BadNumber(-2), operator.setitem, stock, "b", -2)
        self.assertEqual(stock, Stock({"a": 1}))

    def test_copies_are_independent(self):
        stock = Stock({"a": 1})
        twin = stock.copy()
        self.assertEqual(twin, stock)
        twin["a"] = 2
        stock["b"] = 3
        self.assertEqual([stock, twin], [Stock({"a": 1, "b": 3}), Stock({"a": 2})])

    def test_a_stock_is_not_iterated_over(self):
        with self.assertRaises(TypeError):
            list(Stock({"a": 1}))


class Sums(RaisingCase):
    def setUp(self):
        self.one = Stock({"a": 3, "b": BIG})
        self.other = Stock({"a": 1, "c": 2})

    def test_a_sum(self):
        total = self.one + self.other
        self.assertEqual(total, Stock({"a": 4, "b": BIG, "c": 2}))
        self.assertEqual(total, self.other + self.one)
        total["a"] = 9
        self.assertEqual([self.one["a"], self.other["a"]], [3, 1])
        self.assertEqual((self.one + self.one)["b"], 2 * BIG)

    def test_a_sum_with_nothing_is_of_its_own(self):
        for total in [self.one + Stock(), Stock() + self.one, self.one - Stock()]:
            self.assertEqual(total, self.one)
            total["a"] = 100
            self.assertEqual(self.one["a"], 3)

    def test_a_difference(self):
        rest = self.one - Stock({"a": 3, "b": 1})
        self.assertEqual(rest, Stock({"b": BIG - 1}))
        self.assertEqual(rest.names(), ["b"])
        self.assertEqual(self.one - self.one, Stock())
        self.assertEqual(self.one, Stock({"a": 3, "b": BIG}))

    def test_there_is_not_enough(self):
        self.assert_raises(Short("a"), operator.sub, self.one, Stock({"c": 1, "b": 1, "a": 4}))
        self.assert_raises(Short("c"), operator.sub, self.one, Stock({"d": 1, "a": 3, "c": 1}))
        self.assert_raises(Short("ab"), operator.sub, self.one, Stock({"b": BIG + 1, "ab": 1}))
        self.assert_raises(Short("a"), operator.sub, Stock(), Stock({"a": 1}))
        self.assertEqual(self.one, Stock({"a": 3, "b": BIG}))

    def test_adding_in_place(self):
        same = self.one
        self.one += self.other
        self.assertIs(same, self.one)
        self.assertEqual(same, Stock({"a": 4, "b": BIG, "c": 2}))
        self.assertEqual(self.other, Stock({"a": 1, "c": 2}))
        same += same
        self.assertEqual(same, Stock({"a": 8, "b": 2 * BIG, "c": 4}))

    def test_taking_away_in_place(self):
        same = self.one
        self.one -= Stock({"a": 3, "b": 1})
        self.assertIs(same, self.one)
        self.assertEqual(same, Stock({"b": BIG - 1}))
        same -= same
        self.assertEqual(same, Stock())

    def test_there_is_not_enough_in_place(self):
        with self.assertRaises(Short) as caught:
            self.one -= Stock({"a": 1, "c": 1, "d": 1})
        self.assertEqual(vars(caught.exception), {"name": "c"})
        self.assertEqual(self.one, Stock({"a": 3, "b": BIG}))

    def test_later_changes_have_no_effect(self):
        self.one += self.other
        self.other["c"] = 50
        self.assertEqual(self.one["c"], 2)

    def test_other_things_are_not_added(self):
        for operation in [operator.add, operator.sub, operator.iadd, operator.isub, operator.le]:
            with self.assertRaises(TypeError):
                operation(self.one, 1)


class Compared(RaisingCase):
    def test_equality(self):
        one = Stock({"a": 1, "b": 2})
        self.assertIs(one == Stock({"b": 2, "a": 1, "c": 0}), True)
        self.assertIs(one != Stock({"b": 2, "a": 1, "c": 0}), False)
        for other in [Stock({"a": 1}), Stock({"a": 1, "b": 3}), Stock(), {"a": 1, "b": 2}, None, 3]:
            self.assertIs(one == other, False)
            self.assertIs(one != other, True)

    def test_less_or_equal(self):
        for one, other, answer in [
            ({}, {}, True), ({}, {"a": 1}, True), ({"a": 1}, {}, False), ({"a": 1}, {"a": 1}, True),
            ({"a": 1, "b": 2}, {"a": 1, "b": 3}, True), ({"a": 1, "b": 3}, {"a": 2, "b": 2}, False),
            ({"a": 0}, {}, True), ({"a": 1}, {"b": 1}, False), ({"a": 1}, {"b": 1, "a": 1}, True),
            ({"a": BIG}, {"a": BIG - 1}, False), ({"a": BIG - 1}, {"a": BIG}, True),
        ]:
            self.assertIs(Stock(one) <= Stock(other), answer)
            self.assertIs(Stock(other) >= Stock(one), answer)


if __name__ == "__main__":
    unittest.main()
