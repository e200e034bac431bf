"""loopworth.fields: points [1.1] and [1.2]."""

import unittest
from fractions import Fraction
from math import gcd

from loopworth.fields import is_field, is_number, minus, number, over, plus, times
from tests.odd_values import any_values

PRIMES = (2, 3, 5, 7, 11, 13)
BIG = 123456789012345678901234567890

FRACTIONS = (
    (0, 1), (1, 1), (-1, 1), (2, 1), (1, 2), (-1, 2), (1, 3), (-2, 3), (3, 4), (-3, 4), (5, 6), (-7, 6), (6, 35),
    (999999999999, 999999999998), (-999999999989, 1000), (1, 999999999999), (-1, 999999999989),
)


def told(fraction):
    return (fraction.numerator, fraction.denominator)


def plain(x):
    return Fraction(x[0], x[1])


class IsField(unittest.TestCase):
    def test_exactly_these_are_fields(self):
        self.assertEqual([n for n in range(-20, 200) if is_field(n)], [0, 2, 3, 5, 7, 11, 13])

    def test_any_value(self):
        for value in any_values():
            expected = type(value) is int and value in (0, 2, 3, 5, 7, 11, 13)
            self.assertIs(is_field(value), expected, repr(value)[:80])

    def test_true_and_false_are_none(self):
        self.assertIs(is_field(False), False)
        self.assertIs(is_field(True), False)

    def test_lists_tuples_and_texts_are_none(self):
        for value in ([2], (2,), {2: 2}, "2", "0", (0, 1), [0, 1]):
            self.assertIs(is_field(value), False)


class IsNumber(unittest.TestCase):
    def test_of_a_prime_field(self):
        for p in PRIMES:
            self.assertEqual([n for n in range(-20, 40) if is_number(p, n)], list(range(p)))
            self.assertIs(is_number(p, p - 1), True)
            self.assertIs(is_number(p, p), False)
            self.assertIs(is_number(p, -1), False)

    def test_of_the_fractions(self):
        for u in range(-12, 13):
            for e in range(-12, 13):
                expected = e > 0 and gcd(u, e) == 1
                self.assertIs(is_number(0, (u, e)), expected, (u, e))

    def test_any_value_in_a_prime_field(self):
        for p in PRIMES:
            for value in any_values():
                expected = type(value) is int and 0 <= value < p
                self.assertIs(is_number(p, value), expected, repr(value)[:80])

    def test_any_value_among_the_fractions(self):
        for value in any_values():
            expected = (
                type(value) is tuple and len(value) == 2 and type(value[0]) is int and type(value[1]) is int
                and value[1] > 0 and gcd(value[0], value[1]) == 1
            )
            self.assertIs(is_number(0, value), expected, repr(value)[:80])

    def test_true_and_false_are_none(self):
        for p in PRIMES:
            self.assertIs(is_number(p, True), False)
            self.assertIs(is_number(p, False), False)
        for value in (True, False, (True, 1), (1, True), (False, 1), (True, True)):
            self.assertIs(is_number(0, value), False)

    def test_a_list_never_stands_for_a_tuple(self):
        self.assertIs(is_number(0, (1, 2)), True)
        self.assertIs(is_number(0, [1, 2]), False)

    def test_common_divisors_and_e_below_one(self):
        for value in ((2, 4), (0, 2), (-3, 9), (1, 0), (0, 0), (1, -2), (-1, -2), (0, -1), (BIG, BIG)):
            self.assertIs(is_number(0, value), False)
        for value in ((1, 2), (0, 1), (-1, 3), (BIG, 1), (BIG, BIG + 1), (-BIG, BIG - 1)):
            self.assertIs(is_number(0, value), True)

    def test_integers_are_no_fractions(self):
        for value in (0, 1, 5, -1):
            self.assertIs(is_number(0, value), False)


class Number(unittest.TestCase):
    def test_small_ones_are_added_ones(self):
        for p in PRIMES + (0,):
            one = 1 if p else (1, 1)
            total = 0 if p else (0, 1)
            for n in range(40):
                self.assertEqual(number(p, n), total)
                self.assertEqual(plus(p, number(p, n), number(p, -n)), number(p, 0))
                total = plus(p, total, one)

    def test_nought_and_one(self):
        self.assertEqual([number(p, 0) for p in (0,) + PRIMES], [(0, 1)] + [0] * 6)
        self.assertEqual([number(p, 1) for p in (0,) + PRIMES], [(1, 1)] + [1] * 6)

    def test_below_nought(self):
        self.assertEqual([number(p, -1) for p in (0,) + PRIMES], [(-1, 1), 1, 2, 4, 6, 10, 12])

    def test_thirty_figures(self):
        for n in (BIG, -BIG, 10 ** 30 - 1, 1 - 10 ** 30, 10 ** 39, -10 ** 39):
            self.assertEqual(number(0, n), (n, 1))
            for p in PRIMES:
                self.assertTrue(is_number(p, number(p, n)))
                self.assertEqual((n - number(p, n)) % p, 0)

    def test_always_a_number_of_the_field(self):
        for p in (0,) + PRIMES:
            for n in range(-30, 30):
                self.assertTrue(is_number(p, number(p, n)))


class Reckoning(unittest.TestCase):
    def test_in_prime_fields(self):
        for p in PRIMES:
            for x in range(p):
                for y in range(p):
                    self.assertEqual(plus(p, x, y), (x + y) % p)
                    self.assertEqual(minus(p, x, y), (x - y) % p)
                    self.assertEqual(times(p, x, y), (x * y) % p)
                    for answer in (plus(p, x, y), minus(p, x, y), times(p, x, y)):
                        self.assertIs(is_number(p, answer), True)

    def test_over_in_prime_fields(self):
        for p in PRIMES:
            for x in range(p):
                for y in range(1, p):
                    quotients = [z for z in range(p) if z * y % p == x]
                    self.assertEqual([over(p, x, y)], quotients)

    def test_of_fractions(self):
        for x in FRACTIONS:
            for y in FRACTIONS:
                self.assertEqual(plus(0, x, y), told(plain(x) + plain(y)))
                self.assertEqual(minus(0, x, y), told(plain(x) - plain(y)))
                self.assertEqual(times(0, x, y), told(plain(x) * plain(y)))
                if y != (0, 1):
                    self.assertEqual(over(0, x, y), told(plain(x) / plain(y)))

    def test_of_all_small_fractions(self):
        small = sorted({told(Fraction(u, e)) for u in range(-4, 5) for e in range(1, 5)})
        for x in small:
            for y in small:
                self.assertEqual(plus(0, x, y), told(plain(x) + plain(y)))
                self.assertEqual(minus(0, x, y), told(plain(x) - plain(y)))
                self.assertEqual(times(0, x, y), told(plain(x) * plain(y)))
                if y != (0, 1):
                    self.assertEqual(over(0, x, y), told(plain(x) / plain(y)))
                    self.assertEqual(times(0, over(0, x, y), y), x)

    def test_fractions_are_made_shorter(self):
        self.assertEqual(plus(0, (1, 6), (1, 3)), (1, 2))
        self.assertEqual(minus(0, (1, 2), (-1, 2)), (1, 1))
        self.assertEqual(minus(0, (2, 3), (2, 3)), (0, 1))
        self.assertEqual(times(0, (2, 3), (3, 2)), (1, 1))
        self.assertEqual(times(0, (0, 1), (-5, 7)), (0, 1))
        self.assertEqual(over(0, (2, 9), (4, 3)), (1, 6))
        self.assertEqual(over(0, (0, 1), (-4, 3)), (0, 1))

    def test_the_sign_stands_above(self):
        self.assertEqual(over(0, (1, 2), (-3, 4)), (-2, 3))
        self.assertEqual(over(0, (-1, 2), (-3, 4)), (2, 3))
        self.assertEqual(over(0, (1, 1), (-1, 1)), (-1, 1))
        self.assertEqual(times(0, (-1, 2), (-1, 3)), (1, 6))
        self.assertEqual(minus(0, (1, 3), (1, 2)), (-1, 6))
        self.assertEqual(plus(0, (-1, 2), (1, 3)), (-1, 6))
