"""The worked examples of the document, in its order."""

import unittest

from noneorsome.amounts import All, Some
from noneorsome.condition_texts import read_condition
from noneorsome.conditions import Condition
from noneorsome.errors import BadText
from tests.raising import RaisingCase


class Conditions(RaisingCase):
    def test_the_text_of_a_condition(self):
        a = Condition.of("open")
        b = Condition.of("here")
        self.assertEqual(str(~(a | b) & b), "not (open or here) and here")

    def test_comparing_and_asking(self):
        a = Condition.of("open")
        b = Condition.of("here")
        answers = [a & b <= a, a <= a & b, a == ~~a, (a | b)(["here"]), ("here", "open") in a & b]
        self.assertEqual(answers, [True, False, True, True, True])

    def test_reading(self):
        self.assertEqual(str(read_condition("here and(not (open) or  here)")), "here and (not open or here)")

    def test_wrong_texts(self):
        self.assert_raises(BadText(9), read_condition, "here and or")
        self.assert_raises(BadText(9), read_condition, "not (here")


class Amounts(RaisingCase):
    def test_unknown_amounts(self):
        self.assertEqual([None + Some(), None - Some(), None - All()], ["add", "take", "empty"])


if __name__ == "__main__":
    unittest.main()
