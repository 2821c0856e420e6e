"""[19] rows of a measure."""

import itertools
import unittest

from noneorsome.measure_rows import falls, is_row, row_value
from noneorsome.stocks import Stock

BIG = 10 ** 30 - 1


class Forms(unittest.TestCase):
    def test_rows(self):
        for row in [(0,), (5, "here", 0), (1, "b", 2, "a", BIG), (0, "a", 0, "a", 0), (3, "abcdefgh", 4, "and" + "s", 1)]:
            self.assertIs(is_row(row), True, row)
            self.assertIs(is_row(list(row)), True, row)

    def test_what_has_not_the_form(self):
        for row in [
            (), (1, "here"), ("here",), ("here", 1, "away"), (-1,), (0, "here", -1), (0, 1, 2), (0, "here", "away"),
            (1, "here", 0, "away"), (1, "here", 0, 2, 0), (0, "Here", 0), (0, "", 0), (0, "and", 0), (0, "a b", 0),
            (0, "abcdefghi", 0), (0, "here", -BIG), ("1",), (0, "1", 0),
        ]:
            self.assertIs(is_row(row), False, row)
            self.assertIs(is_row(list(row)), False, row)

    def test_the_name_of_the_argument(self):
        self.assertIs(is_row(value=(1,)), True)


class Falling(unittest.TestCase):
    def check(self, expected, one, other, taken=(), added=()):
        for first, second in itertools.product([tuple, list], repeat=2):
            for counters in [tuple, list]:
                found = falls(first(one), second(other), counters(taken), counters(added))
                self.assertIs(found, expected, f"{one} {other} {taken} {added}")

    def test_ranks(self):
        self.check(True, (1,), (0,))
        self.check(False, (0,), (1,))
        self.check(False, (1,), (1,))
        self.check(True, (BIG,), (BIG - 1,))

    def test_a_rank_that_falls_needs_nothing_else(self):
        self.check(True, (1, "a", 0), (0, "b", 7), (), ("a", "b"))
        self.check(True, (1,), (0, "a", 0))
        self.check(True, (2, "a", 0), (1,))
        self.check(False, (0, "a", 9), (1, "a", 0), ("a",))

    def test_a_row_that_ends(self):
        self.check(False, (0,), (0, "a", 0), ("a",))
        self.check(False, (0, "a", 0), (0,), ("a",))
        self.check(False, (0, "a", 1), (0, "a", 1, "b", 0), ("b",))
        self.check(False, (0, "a", 1, "b", 0), (0, "a", 1), ("b",))
        self.check(False, (), (), ("a",))
        self.check(False, (), (0,), ("a",))
        self.check(False, (0,), (), ("a",))

    def test_counters(self):
        self.check(True, (0, "a", 0), (0, "a", 5), ("a",))
        self.check(True, (0, "a", 0), (0, "a", 5), ("b", "a"), ("c",))
        self.check(False, (0, "a", 0), (0, "a", 5), ("b",))
        self.check(False, (0, "a", 1), (0, "a", 0), (), ("a",))
        self.check(True, (0, "a", 1), (0, "a", 0), (), ("b",))
        self.check(False, (0, "a", 1), (0, "a", 1))
        self.check(False, (0, "a", 1), (0, "a", 2))

    def test_a_name_that_is_taken_and_added(self):
        self.check(False, (0, "a", 1), (0, "a", 0), ("a",), ("a",))

    def test_unlike_names(self):
        self.check(False, (0, "a", 1), (0, "b", 0), ("a", "b"))
        self.check(False, (0, "a", 1), (0, "b", 0))

    def test_positions_further_on(self):
        self.check(True, (0, "a", 1, "b", 3), (0, "a", 1, "b", 9), ("b",))
        self.check(True, (0, "a", 1, "b", 3), (0, "a", 1, "b", 2), ("c",))
        self.check(False, (0, "a", 1, "b", 3), (0, "a", 1, "b", 2), ("c",), ("b",))
        self.check(False, (0, "a", 1, "b", 3), (0, "a", 2, "b", 2), ("b",))
        self.check(True, (0, "a", 2, "b", 3), (0, "a", 1, "c", 2), (), ("b", "c"))
        self.check(False, (0, "a", 1, "b", 3), (0, "a", 1, "b", 2), ("b",), ("a",))
        self.check(True, (0, "a", 1, "b", 3), (0, "a", 1, "b", 9), ("a",), ("b",))
        self.check(True, (0, "a", 1, "b", 3, "c", 1), (0, "a", 1, "b", 3, "c", 0))

    def test_equal_rows(self):
        for row in [(0,), (0, "a", 1), (4, "a", 1, "b", 2)]:
            self.check(False, row, row)
            self.check(False, row, row, ("q",))

    def test_the_names_of_the_arguments(self):
        self.assertIs(falls(other=(0, "a", 0), one=(0, "a", 0), added=(), taken=("a",)), True)

    def test_what_is_passed_is_left_as_it_is(self):
        one, other, taken, added = [0, "a", 1], [0, "a", 0], ["b"], ["c"]
        falls(one, other, taken, added)
        self.assertEqual([one, other, taken, added], [[0, "a", 1], [0, "a", 0], ["b"], ["c"]])


class Values(unittest.TestCase):
    def test_values(self):
        stock = Stock({"here": 4, "luck": BIG})
        for row, value in [
            ((3,), [3]), ((1, "here", 0), [1, 4, 0]), ((0, "none", 7), [0, 0, 7]),
            ((BIG, "luck", 2, "here", BIG), [BIG, BIG, 2, 4, BIG]), ((0, "here", 0, "here", 0), [0, 4, 0, 4, 0]),
        ]:
            self.assertEqual(row_value(row, stock), value)
            self.assertEqual(row_value(list(row), stock), value)
            self.assertIsInstance(row_value(row, stock), list)
        self.assertEqual(stock, Stock({"here": 4, "luck": BIG}))

    def test_the_names_of_the_arguments(self):
        self.assertEqual(row_value(stock=Stock({"a": 2}), row=(1, "a", 0)), [1, 2, 0])

    def test_a_row_is_not_changed(self):
        row = [1, "a", 0]
        row_value(row, Stock({"a": 2})).clear()
        self.assertEqual(row, [1, "a", 0])

    def test_what_falls_has_a_lower_value(self):
        """[19] and [21]: where a row falls, the lists of numbers fall, whatever the amounts are."""
        rows = [(rank, name, last) for rank in [0, 1] for name in ["a", "b"] for last in [0, 1]]
        for one, other in itertools.product(rows, repeat=2):
            for before, behind in itertools.product(itertools.product([1, 2, 3], repeat=2), repeat=2):
                names = ["a", "b"]
                taken = [name for name, old, new in zip(names, before, behind) if new < old]
                added = [name for name, old, new in zip(names, before, behind) if new > old]
                if falls(one, other, taken, added):
                    first = row_value(one, Stock(dict(zip(names, before))))
                    self.assertLess(row_value(other, Stock(dict(zip(names, behind)))), first)


if __name__ == "__main__":
    unittest.main()
