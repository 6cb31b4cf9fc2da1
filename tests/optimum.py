"""How it is seen that a greatest mean is the greatest one: shares reach it, and a polynomial bounds it."""

import unittest
from fractions import Fraction
from math import gcd

from tests.by_hand import number


class Optimum(unittest.TestCase):
    def are_fractions(self, told, many):
        self.assertIs(type(told), tuple)
        self.assertEqual(len(told), many)
        for one in told:
            self.assertIs(type(one), tuple)
            self.assertEqual([type(part) for part in one], [int, int])
            self.assertGreater(one[1], 0)
            self.assertEqual(gcd(*one), 1)

    def is_optimum(self, lines, question, greatest, shares, polynomial):
        """Each of the lines has the values of a product at all points, and its even mean."""
        self.are_fractions((greatest,), 1)
        self.are_fractions(shares, len(question))
        self.are_fractions(polynomial, len(lines))
        chances = [number(share) for share in shares]
        self.assertEqual(sum(chances), 1)
        self.assertGreaterEqual(min(chances), 0)
        coming = [(at, chance) for at, chance in enumerate(chances) if chance]
        for values, even in lines:
            self.assertEqual(sum(chance * values[at] for at, chance in coming), even)
        self.assertEqual(sum(chance * number(question[at]) for at, chance in coming), number(greatest))
        heights = [Fraction(0)] * len(question)
        for factor, (values, _) in zip(polynomial, lines, strict=True):
            if factor[0]:
                heights = [height + number(factor) * value for height, value in zip(heights, values, strict=True)]
        for height, one in zip(heights, question, strict=True):
            self.assertGreaterEqual(height, number(one))
        even_mean = sum(number(factor) * even for factor, (_, even) in zip(polynomial, lines))
        self.assertEqual(even_mean, number(greatest))

    def least_and_greatest(self, functions, lines, marks, many, size, question):
        """The least and the greatest mean, all that is told of the question being right, both ways round."""
        greatest_of, least_of, reaching, bounding = functions
        greatest = []
        for asked in (question, tuple((-above, below) for above, below in question)):
            passed = (marks, many, size, asked)
            greatest.append(greatest_of(*passed))
            self.is_optimum(lines, asked, greatest[-1], reaching(*passed), bounding(*passed))
        above, below = greatest[1]
        least = least_of(marks, many, size, question)
        self.assertEqual(least, (-above, below))
        self.assertLessEqual(number(least), number(greatest[0]))
        return least, greatest[0]
