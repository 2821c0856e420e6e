"""[5] unknown amounts."""

import operator
import unittest

from noneorsome.amounts import All, Some
from noneorsome.errors import ChangedTwice
from tests.raising import RaisingCase

OPERANDS = [True, False, "add", "take", "empty", "", "here"]


class Amounts(RaisingCase):
    def test_nothing_on_the_left(self):
        self.assertEqual(None + Some(), "add")
        self.assertEqual(None - Some(), "take")
        self.assertEqual(None - All(), "empty")

    def test_a_change_on_the_left(self):
        for operand in OPERANDS:
            with self.subTest(repr(operand)):
                self.assert_raises(ChangedTwice(operand), operator.add, operand, Some())
                self.assert_raises(ChangedTwice(operand), operator.sub, operand, Some())
                self.assert_raises(ChangedTwice(operand), operator.sub, operand, All())

    def test_other_operands(self):
        for operand in [1, 0, [], ()]:
            with self.assertRaises(TypeError):
                operand - Some()
            with self.assertRaises(TypeError):
                operand - All()
        with self.assertRaises(TypeError):
            None + All()
        with self.assertRaises(TypeError):
            Some() - None

    def test_in_place(self):
        changes = {"here": None}
        changes["here"] += Some()
        self.assertEqual(changes, {"here": "add"})
        with self.assertRaises(ChangedTwice):
            changes["here"] -= All()
        self.assertEqual(changes, {"here": "add"})


if __name__ == "__main__":
    unittest.main()
