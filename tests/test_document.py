"""The worked examples of the document, value by value, under the names that stand there."""

import unittest

from seedtables.leans import lean, likenesses, transform, unevenness
from seedtables.tables import is_even_on, is_table, pattern_counts, strength, uneven_lot

bit, lines = ((0,), (1,)), ((0, 0), (1, 1), (2, 2))
tripled = ((0, 0, 0), (0, 1, 1), (1, 0, 1), (1, 1, 0))


class Tables(unittest.TestCase):
    def test_is_table(self):
        self.assertIs(is_table(2, tripled), True)
        self.assertIs(is_table(2, lines), False)
        self.assertIs(is_table(3, ()), False)

    def test_pattern_counts(self):
        self.assertEqual(pattern_counts(2, tripled, (0, 2)), (1, 1, 1, 1))
        self.assertEqual(pattern_counts(2, tripled, (0, 1, 2)), (1, 0, 0, 1, 0, 1, 1, 0))
        self.assertEqual(pattern_counts(3, lines, ()), (3,))

    def test_is_even_on(self):
        self.assertIs(is_even_on(2, tripled, (0, 1)), True)
        self.assertIs(is_even_on(2, tripled, (0, 1, 2)), False)

    def test_strength(self):
        self.assertEqual(strength(2, tripled), 2)
        self.assertEqual(strength(3, lines), 1)
        self.assertEqual(strength(2, bit), 1)

    def test_uneven_lot(self):
        self.assertIsNone(uneven_lot(2, tripled, 2))
        self.assertEqual(uneven_lot(2, tripled, 3)[0], (0, 1, 2))


class Leans(unittest.TestCase):
    def test_lean(self):
        self.assertEqual(lean(2, tripled, (0, 1)), (0, 1))
        self.assertEqual(lean(2, tripled, (0, 1, 2)), (1, 1))
        self.assertEqual(lean(3, lines, (0, 1)), (2, 1))
        self.assertEqual(lean(3, lines, ()), (1, 1))

    def test_unevenness(self):
        self.assertEqual(unevenness(2, tripled, (0, 1, 2)), (2, 1))
        self.assertEqual(unevenness(3, lines, (0, 1)), (2, 1))

    def test_likenesses(self):
        self.assertEqual(likenesses(2, tripled), (4, 0, 12, 0))
        self.assertEqual(likenesses(3, lines), (3, 0, 6))

    def test_transform(self):
        self.assertEqual(transform(2, tripled), ((1, 1), (0, 1), (0, 1), (1, 1)))
        self.assertEqual(transform(3, lines), ((1, 1), (0, 1), (2, 1)))


if __name__ == "__main__":
    unittest.main()
