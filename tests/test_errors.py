import inspect
import unittest

from seedtables import errors

GIVEN = (
    "InvalidMarks", "InvalidLot", "InvalidKey", "InvalidNumber", "InvalidOrder", "InvalidMap", "InvalidPowers",
    "InvalidFraction", "TooMany",
)
INDEX = (
    "InvalidTable", "InvalidKeys", "InvalidQuestion", "InvalidShares", "InvalidVectors", "InvalidPrices",
    "InvalidSource", "InvalidForgery", "InvalidOrders",
)
BARE = ("SeedError", "UnlikeTables")
WITH_ATTRIBUTE = [(name, "given") for name in GIVEN] + [(name, "index") for name in INDEX]

# A text of the last number cannot be had: Python refuses to write so many figures.
VALUES = (
    None, True, False, 0, 1, -1, 10 ** 30, -10 ** 30, "", "text", b"\x00", (), (0,), ((0, 1), None), [], [0, [1]],
    {}, {"a": [1]}, set(), object(), int, len, 10 ** 5000,
)


class Classes(unittest.TestCase):
    def test_file_defines_just_these_classes(self):
        found = [name for name, value in vars(errors).items() if inspect.isclass(value)]
        self.assertEqual(sorted(found), sorted(GIVEN + INDEX + BARE))
        for name in found:
            self.assertEqual(getattr(errors, name).__module__, "seedtables.errors")

    def test_seed_error_stands_under_value_error(self):
        self.assertEqual(errors.SeedError.__mro__, (errors.SeedError, ValueError, Exception, BaseException, object))

    def test_all_others_stand_under_seed_error_alone(self):
        for name in GIVEN + INDEX + ("UnlikeTables",):
            with self.subTest(name):
                told = getattr(errors, name)
                self.assertEqual(told.__bases__, (errors.SeedError,))
                self.assertEqual(told.__mro__, (told,) + errors.SeedError.__mro__)

    def test_none_stands_under_other_errors_of_python(self):
        usual = (
            TypeError, LookupError, IndexError, KeyError, ArithmeticError, OverflowError, AttributeError,
            RuntimeError, AssertionError, UnicodeError, OSError, StopIteration,
        )
        for name in GIVEN + INDEX + BARE:
            for other in usual:
                self.assertFalse(issubclass(getattr(errors, name), other), (name, other))


class Attributes(unittest.TestCase):
    def test_made_by_position(self):
        for name, attribute in WITH_ATTRIBUTE:
            for value in VALUES:
                made = getattr(errors, name)(value)
                self.assertEqual(list(vars(made)), [attribute], name)
                self.assertIs(getattr(made, attribute), value, name)

    def test_made_by_name(self):
        for name, attribute in WITH_ATTRIBUTE:
            for value in VALUES:
                made = getattr(errors, name)(**{attribute: value})
                self.assertEqual(list(vars(made)), [attribute], name)
                self.assertIs(getattr(made, attribute), value, name)

    def test_made_with_just_one_value(self):
        for name, attribute in WITH_ATTRIBUTE:
            told = getattr(errors, name)
            self.assertRaises(TypeError, told)
            self.assertRaises(TypeError, told, 1, 2)
            self.assertRaises(TypeError, told, **{"given" if attribute == "index" else "index": 1})

    def test_without_attributes(self):
        for name in BARE:
            made = getattr(errors, name)()
            self.assertEqual(vars(made), {})
            self.assertFalse(hasattr(made, "given"))
            self.assertFalse(hasattr(made, "index"))

    def test_text_can_be_had_whatever_the_value(self):
        for name, _ in WITH_ATTRIBUTE:
            for value in VALUES:
                self.assertTrue(str(getattr(errors, name)(value)))

    def test_raised_and_caught_under_each_of_its_classes(self):
        for name, attribute in WITH_ATTRIBUTE:
            for base in (getattr(errors, name), errors.SeedError, ValueError):
                with self.assertRaises(base) as caught:
                    raise getattr(errors, name)((0, 1))
                self.assertEqual(getattr(caught.exception, attribute), (0, 1))


if __name__ == "__main__":
    unittest.main()
