"""Things for the tests to pass in the places of others, and how these are refused."""

import unittest

NO_INTEGERS = (True, False, None, 1.0, "1", b"1", (1,), [1], {1: 1}, {1}, object(), int)
NO_TUPLES = (True, 0, 7, None, 1.5, "", "ab", b"", [], [(1,)], {}, {(1,): 1}, set(), range(2), object(), tuple)
BEYOND_TICKS = (-1, -10 ** 30, 10 ** 30 + 1, 10 ** 999)
BEYOND_MANY = (-1, 1001, -1000, 10 ** 30)
GREAT = 10 ** 999 + 7


class Refusals(unittest.TestCase):
    def refuse(self, error, call, **fields):
        """That the call raises just this error, with these fields."""
        with self.assertRaises(error) as caught:
            call()
        self.assertIs(type(caught.exception), error)
        for name, value in fields.items():
            self.assertEqual(getattr(caught.exception, name), value)
