"""loopworth.digits: points [5.1] to [5.3], to the limits of [5.6]."""

import itertools
import random
import unittest

from loopworth.digits import digits, holds, next_over, of_digits, support
from loopworth.worths import length
from tests import by_hand

PRIMES = (2, 3, 5, 7, 11, 13)
CASES = [(p, l) for p in PRIMES for l in (2, 3, 4, 7, 14, 200)] + [(0, 2), (0, 3), (0, 4), (0, 200)]
ALL_CASES = CASES + [(0, None)] + [(p, None) for p in PRIMES]
BIG = 10 ** 30


def places(p, l, limit):
    """The places up to a limit, and one further one where they go on without end."""
    if l is None:
        return [1]
    found = [1, l]
    while p and found[-1] <= limit:
        found.append(found[-1] * p)
    return found


def numbers_by_places(p, l):
    """Numbers just below, at and above places and some of their multiples."""
    found = {1, 2, BIG - 1, BIG, BIG + 1}
    for place in places(p, l, BIG):
        for many in (1, 2, 5, p - 1, p, p + 1):
            found |= {many * place - 1, many * place, many * place + 1}
    return sorted(N for N in found if 1 <= N <= BIG + 1)


class Digits(unittest.TestCase):
    def check(self, p, l, N):
        told = digits(p, l, N)
        self.assertIs(type(told), tuple)
        self.assertNotEqual(told[-1], 0)
        self.assertGreaterEqual(min(told), 0)
        found = places(p, l, N)
        self.assertLessEqual(len(told), len(found))
        self.assertEqual(sum(digit * place for digit, place in zip(told, found)), N)
        if l is not None:
            self.assertLess(told[0], l)
        if p:
            self.assertTrue(all(digit < p for digit in told[1:]))
        self.assertEqual(of_digits(p, l, told), N)

    def test_small_numbers(self):
        for p, l in ALL_CASES:
            for N in range(1, 500):
                self.check(p, l, N)

    def test_numbers_at_places(self):
        for p, l in ALL_CASES:
            for N in numbers_by_places(p, l):
                self.check(p, l, N)

    def test_the_edges(self):
        self.assertEqual([digits(0, None, 1), digits(0, None, BIG), digits(7, None, 50)], [(1,), (BIG,), (50,)])
        self.assertEqual([digits(0, 5, 4), digits(0, 5, 5), digits(0, 5, 6), digits(0, 5, 25)], [(4,), (0, 1), (1, 1), (0, 5)])
        self.assertEqual([digits(3, 5, 4), digits(3, 5, 5), digits(3, 5, 14), digits(3, 5, 15)], [(4,), (0, 1), (4, 2), (0, 0, 1)])
        self.assertEqual([digits(2, 2, 8), digits(2, 2, 7), digits(13, 14, 14 * 13)], [(0, 0, 0, 1), (1, 1, 1), (0, 0, 1)])
        self.assertEqual(digits(0, 200, BIG), (0, BIG // 200))

    def test_all_tuples_of_digits_tell_a_number_each(self):
        for p, l in ((2, 3), (3, 2), (5, 4), (7, 3)):
            seen = {}
            for many in range(1, 5):
                for told in itertools.product(range(l), *[range(p)] * (many - 1)):
                    if told[-1]:
                        seen[of_digits(p, l, told)] = told
                        self.assertEqual(digits(p, l, of_digits(p, l, told)), told)
            self.assertEqual(sorted(seen), list(range(1, l * p ** 3)))

    def test_a_hundred_and_ten_digits(self):
        for p, l in CASES[:-4]:
            told = (l - 1,) + (p - 1,) * 109
            self.assertEqual(of_digits(p, l, told), l * p ** 109 - 1)
            self.assertEqual(digits(p, l, l * p ** 109 - 1), told)
            told = (0,) * 109 + (1,)
            self.assertEqual(of_digits(p, l, told), l * p ** 108)
            self.assertEqual(digits(p, l, l * p ** 108), told)

    def test_fractions_and_no_length_told_back(self):
        self.assertEqual([of_digits(0, 3, (1, 33)), of_digits(0, 3, (2,)), of_digits(0, None, (BIG,))], [100, 2, BIG])


class Support(unittest.TestCase):
    def test_against_all_signs(self):
        for p, l in ALL_CASES:
            for N in range(1, 300):
                self.assertEqual(support(p, l, N), by_hand.support(p, l, N))

    def test_from_one_to_the_number_each_once(self):
        for p, l in ALL_CASES:
            for N in range(1, 200):
                told = support(p, l, N)
                self.assertIs(type(told), tuple)
                self.assertEqual(list(told), sorted(set(told)))
                self.assertGreaterEqual(told[0], 1)
                self.assertEqual(told[-1], N)
                self.assertEqual(len(told), 2 ** (len([digit for digit in digits(p, l, N) if digit]) - 1))

    def test_the_edges(self):
        self.assertEqual([support(0, None, BIG), support(0, None, 1), support(2, 3, 6), support(0, 3, 6)], [(BIG,), (1,), (6,), (6,)])
        self.assertEqual([support(2, 3, 2), support(2, 3, 4), support(2, 3, 7)], [(2,), (2, 4), (5, 7)])

    def test_great_numbers_of_few_digits(self):
        for p, l in CASES:
            for place in places(p, l, BIG)[1:]:
                if 1 < place < BIG:
                    self.assertEqual(support(p, l, place), (place,))
                    self.assertEqual(support(p, l, place + 1), (place - 1, place + 1))
        self.assertEqual(support(0, 200, BIG - 1), (BIG - 399, BIG - 1))
        told = support(2, 2, 2 ** 99 + 2 ** 90 - 2 ** 79)
        self.assertEqual([len(told), told[0], told[-1]], [2 ** 11, 2 ** 99 - 2 ** 90 + 2 ** 79, 2 ** 99 + 2 ** 90 - 2 ** 79])


class Holds(unittest.TestCase):
    def test_against_supports(self):
        for p, l in ALL_CASES:
            for r in range(90):
                told = by_hand.support(p, l, r + 1)
                for k in range(100):
                    self.assertIs(holds(p, l, k, r), k + 1 in told, (p, l, k, r))

    def test_alike_and_above(self):
        for p, l in ALL_CASES:
            for r in (0, 1, 2, 3, 59, BIG - 1, BIG):
                self.assertIs(holds(p, l, r, r), True)
                self.assertIs(holds(p, l, r + 1, r), False)
                self.assertIs(holds(p, l, r + 2, r), False)
                self.assertIs(holds(p, l, BIG * 2, r), False)

    def test_great_numbers_of_few_digits(self):
        chance = random.Random(53)
        for p, l in ALL_CASES:
            for _ in range(20):
                found = chance.sample(places(p, l, BIG)[:-1] or [1], min(6, len(places(p, l, BIG)[:-1] or [1])))
                N = sum(found)
                told = by_hand.support(p, l, N)
                for x in told:
                    self.assertIs(holds(p, l, x - 1, N - 1), True)
                    for y in (x - 2, x + 1, x + 2, x - 1 + 2 * max(found)):
                        if y >= 1:
                            self.assertIs(holds(p, l, y - 1, N - 1), y in told)

    def test_many_digits(self):
        N = 2 ** 100 - 1
        for bits in (0, 1, 2 ** 98, 2 ** 99 - 1, 3 ** 60, 10 ** 29):
            self.assertIs(holds(2, 2, N - 2 * bits - 1, N - 1), True)
        self.assertIs(holds(2, 2, N - 2 * 2 ** 99, N - 1), False)
        self.assertIs(holds(2, 2, 0, 2 ** 100 - 1 + 2 ** 100 - 1), True)
        self.assertIs(holds(3, 2, BIG - 4, BIG - 1), False)


class NextOver(unittest.TestCase):
    def test_the_least_one(self):
        for p, l in ALL_CASES:
            for k in range(60):
                above = [r for r in range(k + 1, 1000) if holds(p, l, k, r)][:1]
                if above:
                    self.assertEqual(next_over(p, l, k), above[0], (p, l, k))
                else:
                    told = next_over(p, l, k)
                    self.assertTrue(told is None or told >= 1000, (p, l, k, told))

    def test_none(self):
        for k in (0, 1, 2, 59, BIG):
            for p in (0,) + PRIMES:
                self.assertIsNone(next_over(p, None, k))
        for l in (2, 3, 7, 200):
            self.assertIsNone(next_over(0, l, l - 1))
            self.assertIsNone(next_over(0, l, 5 * l - 1))
            self.assertIsNone(next_over(0, l, l * 10 ** 27 - 1))

    def test_of_fractions(self):
        self.assertEqual([next_over(0, 3, 0), next_over(0, 3, 1), next_over(0, 3, 3), next_over(0, 3, 4)], [4, 3, 7, 6])
        self.assertEqual(next_over(0, 200, BIG), BIG + 398)

    def test_near_places(self):
        for p, l in CASES:
            for N in numbers_by_places(p, l):
                r = next_over(p, l, N - 1)
                if r is None:
                    self.assertEqual([p, N % l], [0, 0])
                else:
                    self.assertGreater(r, N - 1)
                    self.assertIs(holds(p, l, N - 1, r), True)

    def test_at_the_places_of_primes(self):
        self.assertEqual(next_over(2, 2, 0), 2)
        self.assertEqual(next_over(2, 3, 2 * 3 - 1), 2 * 12 - 6 - 1)
        self.assertEqual(next_over(5, 4, 4 * 5 ** 30 - 1), 2 * 4 * 5 ** 31 - 4 * 5 ** 30 - 1)
        self.assertEqual(next_over(13, 2, 2 * 13 ** 20 * 5 - 1), 2 * 2 * 13 ** 21 - 2 * 13 ** 20 * 5 - 1)


class WithLengthsOfWorths(unittest.TestCase):
    def test_each_prime_and_worth(self):
        for p in PRIMES:
            for d in range(p):
                l = length(p, d)
                for N in (1, l - 1, l, l + 1, l * p - 1, l * p, l * p + 1, BIG):
                    self.assertEqual(of_digits(p, l, digits(p, l, N)), N)
                    self.assertIs(holds(p, l, N - 1, N - 1), True)
