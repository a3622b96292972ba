"""Point 2: fractions, and the reckoning with them."""

import operator
import unittest
from fractions import Fraction

from lastcoffer.chances import fraction, is_less, minus, over, plus, times
from common import HUGE, pair, read, refused

TOPS = (0, 1, -1, 2, -2, 6, -9, 12, 1000, -1001, 2 ** 70, -(3 ** 50), HUGE, -HUGE)
LOWS = (1, 2, 3, 4, 6, 12, 35, 999, 10 ** 30, 2 ** 70, HUGE)


def some_fractions():
    return sorted({Fraction(top, low) for top in TOPS for low in LOWS})[::3] + [Fraction(0), Fraction(1), Fraction(-1)]


class Lowest(unittest.TestCase):
    def test_plain_ones(self):
        self.assertEqual(fraction(1, 2), (1, 2))
        self.assertEqual(fraction(6, 4), (3, 2))
        self.assertEqual(fraction(12, 4), (3, 1))

    def test_signs(self):
        self.assertEqual(fraction(-6, 4), (-3, 2))
        self.assertEqual(fraction(6, -4), (-3, 2))
        self.assertEqual(fraction(-6, -4), (3, 2))
        self.assertEqual(fraction(5, -1), (-5, 1))

    def test_zero(self):
        for low in (1, -1, 2, -2, 7, -7, HUGE, -HUGE):
            self.assertEqual(fraction(0, low), (0, 1))

    def test_a_low_part_of_zero(self):
        for top in TOPS:
            refused(self, "OutOfRange", fraction, top, 0)

    def test_multiples_of_all_sizes(self):
        for top in TOPS:
            for low in LOWS:
                for factor in (1, 2, -1, -3, 10 ** 20, -(10 ** 60 - 1)):
                    answer = fraction(top * factor, low * factor)
                    self.assertEqual(answer, pair(Fraction(top, low)))
                    self.assertIs(type(answer), tuple)


class Reckoning(unittest.TestCase):
    def test_by_hand(self):
        self.assertEqual(plus((1, 6), (1, 3)), (1, 2))
        self.assertEqual(minus((1, 6), (1, 3)), (-1, 6))
        self.assertEqual(times((2, 3), (3, 4)), (1, 2))
        self.assertEqual(over((1, 2), (-3, 4)), (-2, 3))
        self.assertEqual(over((0, 1), (-3, 4)), (0, 1))

    def test_against_python_fractions(self):
        pairs = [(first, second) for first in some_fractions() for second in some_fractions()]
        for first, second in pairs:
            a, b = pair(first), pair(second)
            self.assertEqual(plus(a, b), pair(first + second))
            self.assertEqual(minus(a, b), pair(first - second))
            self.assertEqual(times(a, b), pair(first * second))
            if second != 0:
                self.assertEqual(over(a, b), pair(first / second))

    def test_opposite_and_equal_ones(self):
        for value in some_fractions():
            a = pair(value)
            self.assertEqual(plus(a, pair(-value)), (0, 1))
            self.assertEqual(minus(a, a), (0, 1))
            self.assertEqual(minus((0, 1), a), pair(-value))
            self.assertEqual(times(a, (0, 1)), (0, 1))
            if value != 0:
                self.assertEqual(over(a, a), (1, 1))

    def test_division_by_zero(self):
        for value in some_fractions():
            refused(self, "OutOfRange", over, pair(value), (0, 1))


class Less(unittest.TestCase):
    def test_values_are_compared_not_tuples(self):
        self.assertIs(is_less((1, 3), (1, 2)), True)
        self.assertIs(is_less((1, 2), (1, 3)), False)
        self.assertIs(is_less((2, 3), (3, 4)), True)
        self.assertIs(is_less((-1, 2), (-1, 3)), True)
        self.assertIs(is_less((-1, 3), (-1, 2)), False)
        self.assertIs(is_less((-5, 1), (0, 1)), True)

    def test_against_python_fractions(self):
        for first in some_fractions():
            for second in some_fractions():
                answer = is_less(pair(first), pair(second))
                self.assertIs(answer, operator.lt(first, second))

    def test_equal_and_nearly_equal_large_ones(self):
        near, nearer = (HUGE - 1, HUGE), (HUGE, HUGE + 1)
        self.assertIs(is_less(near, nearer), True)
        self.assertIs(is_less(nearer, near), False)
        self.assertIs(is_less(near, near), False)
        self.assertEqual(read(minus(nearer, near)), Fraction(1, HUGE * (HUGE + 1)))
