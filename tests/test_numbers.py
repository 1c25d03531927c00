"""Whole numbers and fractions: [0.3]."""

import unittest
from fractions import Fraction
from math import gcd

from cellyard.numbers import fraction, greatest_divisor, is_fraction, is_whole, is_within, plus
from helper import FAR_WHOLES, NO_WHOLES


class TestWholes(unittest.TestCase):
    def test_ints_are_whole_numbers(self):
        for thing in [0, 1, -1, 5, 9999, -9999] + FAR_WHOLES:
            self.assertIs(is_whole(thing), True)

    def test_nothing_else_is_one(self):
        for thing in NO_WHOLES:
            self.assertIs(is_whole(thing), False)

    def test_bounds_belong_to_what_is_within(self):
        for thing, within in [(2, False), (3, True), (4, True), (6, True), (7, True), (8, False)]:
            self.assertIs(is_within(thing, 3, 7), within, thing)
        self.assertIs(is_within(0, 0, 0), True)

    def test_far_numbers_and_other_things_are_not_within(self):
        for thing in FAR_WHOLES + NO_WHOLES:
            self.assertIs(is_within(thing, 0, 9999), False)


class TestFractions(unittest.TestCase):
    def test_ordinary_ones(self):
        self.assertEqual(fraction(6, 4), (3, 2))
        self.assertEqual(fraction(3, 2), (3, 2))
        self.assertEqual(fraction(12, 4), (3, 1))
        self.assertEqual(fraction(4, 12), (1, 3))

    def test_nothing_is_nothing_through_one(self):
        self.assertEqual(fraction(0, 1), (0, 1))
        self.assertEqual(fraction(0, 700), (0, 1))

    def test_many_against_pythons_own(self):
        for top in range(0, 60):
            for below in range(1, 60):
                told = fraction(top, below)
                self.assertEqual(told, Fraction(top, below).as_integer_ratio())
                self.assertIsInstance(told, tuple)
                self.assertEqual(greatest_divisor(top, below), gcd(top, below))

    def test_what_is_a_fraction(self):
        for thing in [(0, 1), (1, 1), (1, 2), (7, 3), (10 ** 5000, 7)]:
            self.assertIs(is_fraction(thing), True)
        wrong = [(0, 2), (2, 2), (2, 4), (1, 0), (0, 0), (-1, 1), (1, -1), (-1, -1), (True, 1), (1, True), (1,), (1, 1, 1)]
        others = [thing for thing in NO_WHOLES if thing != (1, 2)]
        for thing in others + FAR_WHOLES + wrong + [[0, 1], (None, 1), ("1", 1), ((1,), 1), (1.0, 1), (1, [])]:
            self.assertIs(is_fraction(thing), False)

    def test_sums(self):
        for top in range(0, 12):
            for below in range(1, 12):
                for other in [(0, 1), (1, 1), (5, 6), (1, 12)]:
                    one = fraction(top, below)
                    self.assertEqual(plus(one, other), (Fraction(*one) + Fraction(*other)).as_integer_ratio())


if __name__ == "__main__":
    unittest.main()
