"""The errors of the package ([5])."""

import inspect
import unittest

from etasure import errors
from etasure.errors import SeriesError, TooMany
from tests.helpers import STRANGE, Stubborn

NAMES = """BadCusp BadFamily BadForm BadLevel BadMatrix BadMost BadNumber BadOrders BadPair BadPartition BadPath
BadPeriod BadPiece BadPower BadPrime BadProduct BadQuotient BadRatio BadRow BadStep BadSum BadTerm BadText BadTwice
BadWeight BadWord NotApart NotCuspidal NotDivided NotFit NotOne NotPaired NotProduct NotSquare NotStraight NotUnit
TooMany""".split()


class TestErrors(unittest.TestCase):

    def test_all_are_there_and_directly_below(self):
        self.assertEqual(len(NAMES), 37)
        self.assertEqual(SeriesError.__bases__, (ValueError,))
        for name in NAMES:
            error = getattr(errors, name)
            self.assertEqual(error.__bases__, (SeriesError,), name)
            self.assertEqual((error.__name__, error.__module__), (name, "etasure.errors"))
        self.assertEqual(SeriesError.__module__, "etasure.errors")

    def test_there_are_no_others(self):
        found = [name for name, value in vars(errors).items() if inspect.isclass(value)]
        self.assertEqual(sorted(found), sorted(NAMES + ["SeriesError"]))

    def test_messages(self):
        for name in NAMES + ["SeriesError"]:
            if name != "TooMany":
                error = getattr(errors, name)
                for message in ("", "a text", "two\nlines"):
                    made = error(message)
                    self.assertEqual(str(made), message)
                    self.assertEqual(made.args, (message,))

    def test_they_are_caught_as_what_they_are(self):
        for name in NAMES + ["SeriesError"]:
            error = getattr(errors, name)
            for caught in (error, SeriesError, ValueError):
                with self.assertRaises(caught):
                    raise error("told")

    def test_no_error_is_caught_as_another(self):
        for name in NAMES:
            made = getattr(errors, name)("told")
            for other in NAMES:
                self.assertEqual(isinstance(made, getattr(errors, other)), name == other)

    def test_too_many_keeps_any_value(self):
        for value in STRANGE + [3000, -5, 10 ** 100, [1, 2], (), Stubborn()]:
            self.assertIs(TooMany(value).most, value)
            self.assertIs(TooMany(most=value).most, value)
        self.assertEqual(list(inspect.signature(TooMany).parameters), ["most"])

    def test_too_many_can_be_shown(self):
        for value in (3000, None, "text", Stubborn()):
            self.assertIsInstance(str(TooMany(value)), str)
            self.assertIsInstance(str(TooMany(most=value)), str)

    def test_too_many_needs_its_attribute(self):
        with self.assertRaises(TypeError):
            TooMany()


if __name__ == "__main__":
    unittest.main()
