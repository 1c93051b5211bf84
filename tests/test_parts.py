"""Tests of kimariji.parts: promise 2."""

import unittest
from fractions import Fraction
from itertools import product

from kimariji.errors import NoPart
from kimariji.parts import less, minus, part, plus

GREAT = 12345678901234567890
NUMBERS = (-12, -7, -3, -1, 0, 1, 2, 4, 9)
BOTTOMS = (-6, -4, -1, 1, 3, 8)


def pair(fraction):
    return (fraction.numerator, fraction.denominator)


class TestPart(unittest.TestCase):
    def test_lowest_terms(self):
        self.assertEqual(part(6, 8), (3, 4))
        self.assertEqual(part(3, 4), (3, 4))
        self.assertEqual(part(8, 6), (4, 3))
        self.assertEqual(part(12, 4), (3, 1))
        self.assertEqual(part(7, 7), (1, 1))
        self.assertEqual(part(5, 1), (5, 1))

    def test_bottom_is_above_0(self):
        self.assertEqual(part(6, -8), (-3, 4))
        self.assertEqual(part(-6, 8), (-3, 4))
        self.assertEqual(part(-6, -8), (3, 4))

    def test_nought(self):
        for bottom in (1, 7, -1, -7, GREAT, -GREAT):
            self.assertEqual(part(0, bottom), (0, 1))

    def test_twenty_figures(self):
        self.assertEqual(part(GREAT * 6, GREAT * 9), (2, 3))
        self.assertEqual(part(GREAT * 6, GREAT * -9), (-2, 3))
        self.assertEqual(part(GREAT, GREAT + 1), (GREAT, GREAT + 1))
        self.assertEqual(part(98765432109876543210, GREAT), (109739369, 13717421))

    def test_kind_of_value(self):
        told = part(6, -8)
        self.assertIs(type(told), tuple)
        self.assertEqual([type(number) for number in told], [int, int])

    def test_no_part(self):
        for top in (0, 1, -1, GREAT):
            with self.assertRaises(NoPart):
                part(top, 0)


class TestReckoning(unittest.TestCase):
    def test_against_fractions(self):
        pairs = list(product(NUMBERS, BOTTOMS))
        for one, other in product(pairs, pairs):
            first, second = Fraction(*one), Fraction(*other)
            self.assertEqual(plus(one, other), pair(first + second), (one, other))
            self.assertEqual(minus(one, other), pair(first - second), (one, other))
            self.assertIs(less(one, other), first < second, (one, other))

    def test_plus(self):
        self.assertEqual(plus((1, 2), (1, 3)), (5, 6))
        self.assertEqual(plus((1, 6), (1, 3)), (1, 2))
        self.assertEqual(plus((1, 2), (-1, 2)), (0, 1))
        self.assertEqual(plus((2, 4), (3, -6)), (0, 1))

    def test_minus(self):
        self.assertEqual(minus((1, 2), (1, 3)), (1, 6))
        self.assertEqual(minus((1, 3), (1, 2)), (-1, 6))
        self.assertEqual(minus((3, 6), (-5, -10)), (0, 1))

    def test_twenty_figures(self):
        self.assertEqual(plus((1, GREAT), (1, GREAT)), (1, GREAT // 2))
        self.assertEqual(minus((GREAT, 7), (GREAT - 7, 7)), (1, 1))
        self.assertIs(less((GREAT, GREAT + 1), (GREAT + 1, GREAT + 2)), True)
        self.assertIs(less((GREAT + 1, GREAT + 2), (GREAT, GREAT + 1)), False)

    def test_less_both_ways_round(self):
        self.assertIs(less((1, 3), (1, 2)), True)
        self.assertIs(less((1, 2), (1, 3)), False)
        self.assertIs(less((1, 2), (2, 4)), False)
        self.assertIs(less((1, -2), (1, 3)), True)
        self.assertIs(less((1, 3), (1, -2)), False)
        self.assertIs(less((-1, 2), (-1, 3)), True)
        self.assertIs(less((-1, -3), (-1, -2)), True)

    def test_no_part(self):
        for reckon in (plus, minus, less):
            for one, other in product(((1, 0), (0, 0), (1, 2), (0, 1), (1, -3)), repeat=2):
                if one[1] == 0 or other[1] == 0:
                    with self.assertRaises(NoPart, msg=(reckon, one, other)):
                        reckon(one, other)


if __name__ == "__main__":
    unittest.main()
