"""loopworth.worths: points [1.3] and [1.4], to the limits of [1.5]."""

import unittest
from fractions import Fraction

from loopworth.worths import judge_length, length, lengths_of, term, worth_row, worths_of
from tests.odd_values import any_values

PRIMES = (2, 3, 5, 7, 11, 13)
FRACTIONS = (
    (0, 1), (1, 1), (-1, 1), (2, 1), (-2, 1), (1, 2), (-1, 2), (3, 1), (-3, 2), (7, 5),
    (999999999999, 999999999998), (-999999999989, 999999999999), (1, 999999999999),
)


def row_by_hand(p, d, m):
    """The terms, reckoned with Python's own numbers."""
    d = d if p else Fraction(d[0], d[1])
    row = [d * 0 + 1, d]
    for _ in range(m):
        row.append(d * row[-1] - row[-2])
    if p:
        return [x % p for x in row[:m + 1]]
    return [(x.numerator, x.denominator) for x in row[:m + 1]]


def term_by_powers(p, d, m):
    """The term number m as an entry of a power of ((d, -1), (1, 0))."""
    def put(a, b):
        return tuple(tuple(sum(a[i][k] * b[k][j] for k in (0, 1)) % p for j in (0, 1)) for i in (0, 1))
    answer, factor = ((1, 0), (0, 1)), ((d, p - 1), (1, 0))
    while m:
        if m % 2:
            answer = put(answer, factor)
        factor = put(factor, factor)
        m //= 2
    return answer[0][0]


class Rows(unittest.TestCase):
    def test_of_prime_fields(self):
        for p in PRIMES:
            for d in range(p):
                for m in (0, 1, 2, 3, 4, 17, 60):
                    self.assertEqual(worth_row(p, d, m), row_by_hand(p, d, m))

    def test_of_fractions(self):
        for d in FRACTIONS:
            for m in (0, 1, 2, 3, 10, 60):
                self.assertEqual(worth_row(0, d, m), row_by_hand(0, d, m))

    def test_the_first_terms(self):
        for p in PRIMES:
            for d in range(p):
                self.assertEqual(worth_row(p, d, 0), [1])
                self.assertEqual(worth_row(p, d, 1), [1, d])
        self.assertEqual(worth_row(0, (-2, 3), 0), [(1, 1)])
        self.assertEqual(worth_row(0, (-2, 3), 1), [(1, 1), (-2, 3)])

    def test_the_terms_of_two_are_the_integers(self):
        self.assertEqual(worth_row(0, (2, 1), 60), [(n, 1) for n in range(1, 62)])

    def test_a_list_of_the_callers_own(self):
        row = worth_row(7, 3, 5)
        self.assertIs(type(row), list)
        row.append(9)
        row[0] = 9
        self.assertEqual(worth_row(7, 3, 5), row_by_hand(7, 3, 5))


class Terms(unittest.TestCase):
    def test_as_in_the_row(self):
        for p in PRIMES:
            for d in range(p):
                row = row_by_hand(p, d, 200)
                self.assertEqual([term(p, d, m) for m in range(201)], row)

    def test_far_ones(self):
        near = [10 ** 30 - k for k in range(31)]
        for m in near + [10 ** 29 + 7, 3 ** 62, 2 ** 99, 10 ** 15]:
            for p in PRIMES:
                for d in range(p):
                    self.assertEqual(term(p, d, m), term_by_powers(p, d, m), (p, d, m))

    def test_what_the_document_says_of_a_length(self):
        for p in PRIMES:
            for d in range(p):
                l = length(p, d)
                for j in list(range(40)) + [10 ** 29, 10 ** 29 + 1]:
                    self.assertEqual(term(p, d, l + j), term(p, d, l) * term(p, d, j) % p)


class Lengths(unittest.TestCase):
    def test_the_least_one_of_prime_fields(self):
        for p in PRIMES:
            for d in range(p):
                row = row_by_hand(p, d, 3 * p)
                self.assertEqual(length(p, d), [l for l in range(2, 3 * p) if row[l - 1] == 0][0])
                self.assertLessEqual(length(p, d), p + 1)

    def test_of_fractions(self):
        self.assertEqual([length(0, (n, 1)) for n in (0, 1, -1)], [2, 3, 3])
        for d in FRACTIONS[3:]:
            self.assertIsNone(length(0, d))

    def test_no_further_fraction_has_one(self):
        for u in range(-20, 21):
            for e in range(1, 8):
                d = Fraction(u, e)
                if d not in (0, 1, -1):
                    self.assertIsNone(length(0, (d.numerator, d.denominator)))

    def test_lengths_of_a_field(self):
        for p in PRIMES:
            self.assertEqual(lengths_of(p), [length(p, d) for d in range(p)])
        self.assertEqual(lengths_of(2), [2, 3])
        self.assertEqual(lengths_of(3), [2, 3, 3])
        self.assertEqual(lengths_of(7), [2, 3, 7, 4, 4, 7, 3])

    def test_lengths_of_a_field_are_the_callers_own(self):
        told = lengths_of(5)
        self.assertIs(type(told), list)
        told[0] = 9
        self.assertEqual(lengths_of(5), [2, 3, 5, 5, 3])


class WorthsOf(unittest.TestCase):
    def test_of_prime_fields(self):
        for p in PRIMES:
            for l in list(range(2, 20)) + [10 ** 39, 10 ** 40 - 1]:
                self.assertEqual(worths_of(p, l), tuple(d for d in range(p) if length(p, d) == l))

    def test_each_worth_once(self):
        for p in PRIMES:
            found = [d for l in range(2, p + 2) for d in worths_of(p, l)]
            self.assertEqual(sorted(found), list(range(p)))

    def test_of_fractions_ascending_as_numbers(self):
        self.assertEqual(worths_of(0, 2), ((0, 1),))
        self.assertEqual(worths_of(0, 3), ((-1, 1), (1, 1)))
        for l in [4, 5, 6, 7, 12, 10 ** 39, 10 ** 40 - 1]:
            self.assertEqual(worths_of(0, l), ())

    def test_two_is_the_length_of_nought(self):
        for p in PRIMES:
            self.assertEqual(worths_of(p, 2), (0,))


class JudgeLength(unittest.TestCase):
    def worths(self):
        return [(p, d) for p in PRIMES for d in range(p)] + [(0, d) for d in FRACTIONS]

    def test_the_right_one(self):
        for p, d in self.worths():
            self.assertIsNone(judge_length(p, d, length(p, d)))

    def test_form(self):
        for p, d in self.worths():
            for value in any_values():
                if value is None or (type(value) is int and value >= 2):
                    continue
                self.assertEqual(judge_length(p, d, value), ("form",), repr(value)[:80])

    def test_form_comes_before_all_others(self):
        for value in (True, False, 1, 0, -1, -10 ** 59, "3", (3,), [3], {3: 3}, "None"):
            self.assertEqual(judge_length(0, (2, 1), value), ("form",))
            self.assertEqual(judge_length(0, (1, 1), value), ("form",))
            self.assertEqual(judge_length(5, 2, value), ("form",))

    def test_none(self):
        for d in FRACTIONS[3:]:
            for value in (2, 3, 4, 60, 10 ** 59):
                self.assertEqual(judge_length(0, d, value), ("none",))

    def test_early(self):
        for p, d in self.worths():
            l = length(p, d)
            if l is not None:
                for value in (None, l + 1, l + 2, 2 * l, 10 ** 59):
                    self.assertEqual(judge_length(p, d, value), ("early", l))

    def test_term(self):
        for p, d in self.worths():
            row = row_by_hand(p, d, 20)
            for value in range(2, length(p, d) or 2):
                self.assertEqual(judge_length(p, d, value), ("term", row[value - 1]))
        self.assertEqual(judge_length(13, 2, 12), ("term", 12))
        self.assertEqual(judge_length(0, (-1, 1), 2), ("term", (-1, 1)))
        self.assertEqual(judge_length(0, (1, 1), 2), ("term", (1, 1)))
