"""What the tests share: asking for an error together with its attributes."""

import unittest


class RaisingCase(unittest.TestCase):
    def assert_raises(self, expected, call, *args, **named):
        """Check that a call raises an error of the class and with the attributes of `expected`."""
        with self.assertRaises(type(expected)) as caught:
            call(*args, **named)
        self.assertIs(type(caught.exception), type(expected))
        found = vars(caught.exception)
        self.assertEqual(found, vars(expected))
        # 1 == True and () == [] are no answers: the kinds of the values count too.
        for name, value in vars(expected).items():
            self.assertIs(type(found[name]), type(value))
