"""The refusals [0.4] and their interface."""

import inspect
import unittest

from noshortring import errors

BARE = ("NoPlace", "NoNumber", "NoLine", "NoRing", "NotEven")
WITH_FIELDS = {"NoWeb": ("number",), "NoText": ("row",), "TooGreat": ("many", "most")}


class Refusals(unittest.TestCase):
    def test_ring_error_stands_straight_under_value_error(self):
        self.assertEqual(errors.RingError.__bases__, (ValueError,))

    def test_each_stands_straight_under_ring_error(self):
        for name in BARE + tuple(WITH_FIELDS):
            self.assertEqual(getattr(errors, name).__bases__, (errors.RingError,), name)

    def test_there_are_no_others(self):
        names = [name for name, thing in vars(errors).items() if inspect.isclass(thing)]
        self.assertEqual(sorted(names), sorted(("RingError",) + BARE + tuple(WITH_FIELDS)))

    def test_bare_ones_are_made_of_nothing(self):
        for name in BARE:
            refusal = getattr(errors, name)()
            self.assertIsInstance(refusal, errors.RingError)
            self.assertEqual(vars(refusal), {}, name)

    def test_fields_are_set_in_their_order(self):
        for name, fields in WITH_FIELDS.items():
            values = tuple(range(7, 7 + len(fields)))
            refusal = getattr(errors, name)(*values)
            self.assertEqual(vars(refusal), dict(zip(fields, values)), name)


if __name__ == "__main__":
    unittest.main()
