"""loopworth.ranks: points [4.3], [4.4] and the nought rows of [4.5], to the limits of [4.6]."""

import itertools
import random
import unittest
from fractions import Fraction

from loopworth.fields import is_number, number, over, power, times
from loopworth.halves import count, halves
from loopworth.pieces import size
from loopworth.ranks import determinant, judge_nought, nought_basis, rank_of, reduced, table_rank
from loopworth.rooms import table, values_of
from loopworth.worths import worth_row
from tests import by_hand
from tests.odd_values import any_values

FIELDS = (0, 2, 3, 5, 7, 11, 13)
PRIMES = FIELDS[1:]


def rooms(limit):
    return [(n, k) for n in range(limit + 1) for k in range(n % 2, n + 1, 2)]


def worths():
    return [(p, d) for p in PRIMES for d in range(p)] + [(0, d) for d in by_hand.numbers(0)]


def some_rows(chance, p, many, width):
    """Rows of which the later ones are often made of those ahead of them."""
    rows = []
    for _ in range(many):
        if rows and chance.randrange(3) == 0:
            one, other, x = chance.choice(rows), chance.choice(rows), chance.choice(by_hand.numbers(p))
            sums = [by_hand.plain(p, y) + by_hand.plain(p, x) * by_hand.plain(p, z) for y, z in zip(one, other)]
            rows.append(tuple(by_hand.told(p, y) for y in sums))
        else:
            rows.append(tuple(chance.choice(by_hand.numbers(p)) for _ in range(width)))
    return rows


def is_reduced(p, rows):
    """Whether the rows have the form that [4.3] tells of reduced ones."""
    nought, one = number(p, 0), number(p, 1)
    leads = []
    for row in rows:
        places = [place for place, x in enumerate(row) if x != nought]
        if not places or row[places[0]] != one:
            return False
        leads.append(places[0])
    if leads != sorted(set(leads)):
        return False
    return all(rows[i][lead] == nought for i in range(len(rows)) for j, lead in enumerate(leads) if i != j)


class Rows(unittest.TestCase):
    def test_just_the_same_rows_are_made(self):
        chance = random.Random(1)
        for p in (2, 3, 5):
            for many, width in itertools.product(range(5), range(1, 4)):
                for _ in range(6):
                    rows = some_rows(chance, p, many, width)
                    answer = reduced(p, rows)
                    made = by_hand.made(p, rows, width)
                    self.assertTrue(is_reduced(p, answer), answer)
                    self.assertEqual(by_hand.made(p, answer, width), made)
                    self.assertEqual(p ** rank_of(p, rows), len(made))
                    self.assertEqual(rank_of(p, rows), len(answer))

    def test_just_one_such_list(self):
        chance = random.Random(2)
        for p in FIELDS:
            for _ in range(10):
                rows = some_rows(chance, p, 4, 5)
                answer = reduced(p, rows)
                self.assertTrue(is_reduced(p, answer))
                self.assertEqual(reduced(p, answer), answer)
                self.assertEqual(reduced(p, rows[::-1]), answer)
                self.assertEqual(reduced(p, rows + answer), answer)
                self.assertEqual(reduced(p, tuple(rows)), answer)

    def test_fractions(self):
        self.assertEqual(reduced(0, [((2, 1), (1, 1)), ((1, 1), (1, 2))]), [((1, 1), (1, 2))])
        self.assertEqual(reduced(0, [((0, 1), (3, 4)), ((-2, 3), (1, 6))]), [((1, 1), (0, 1)), ((0, 1), (1, 1))])
        self.assertEqual(reduced(0, [((1, 1), (1, 2), (1, 3)), ((1, 2), (1, 3), (1, 4))]),
                         [((1, 1), (0, 1), (-1, 6)), ((0, 1), (1, 1), (1, 1))])

    def test_fractions_are_made_of_the_reduced_ones(self):
        chance = random.Random(3)
        for _ in range(30):
            rows = some_rows(chance, 0, 4, 5)
            answer = reduced(0, rows)
            leads = [row.index((1, 1)) for row in answer]
            for row in rows:
                rest = [by_hand.plain(0, x) for x in row]
                for lead, step in zip(leads, answer):
                    often = by_hand.plain(0, row[lead])
                    rest = [x - often * by_hand.plain(0, y) for x, y in zip(rest, step)]
                self.assertEqual(rest, [0] * 5)

    def test_square_and_empty_rows(self):
        for p in FIELDS:
            nought, one = number(p, 0), number(p, 1)
            for rows in ([], ()):
                self.assertEqual([rank_of(p, rows), reduced(p, rows), determinant(p, rows)], [0, [], one])
            self.assertEqual([rank_of(p, [(), ()]), reduced(p, [(), ()])], [0, []])
            self.assertEqual([rank_of(p, [(nought,) * 3] * 3), reduced(p, [(nought,) * 3] * 3)], [0, []])
            unit = [(one, nought), (nought, one)]
            self.assertEqual([rank_of(p, unit), reduced(p, unit), determinant(p, unit)], [2, unit, one])
            self.assertEqual([rank_of(p, unit[::-1]), reduced(p, unit[::-1])], [2, unit])

    def test_what_is_passed_stays_and_what_is_told_is_new(self):
        rows = [(1, 0), (0, 1)]
        answer = reduced(5, rows)
        self.assertIs(type(answer), list)
        answer.clear()
        self.assertEqual(rows, [(1, 0), (0, 1)])
        for function in (rank_of, reduced, determinant):
            rows = [(0, 2, 1), (3, 1, 0), (3, 3, 1)]
            function(5, rows)
            self.assertEqual(rows, [(0, 2, 1), (3, 1, 0), (3, 3, 1)])

    def test_forty_rows_of_forty_numbers(self):
        chance = random.Random(40)
        for p in PRIMES:
            rows = [tuple(chance.randrange(p) for _ in range(40)) for _ in range(40)]
            answer = reduced(p, rows)
            self.assertTrue(is_reduced(p, answer))
            self.assertEqual(rank_of(p, rows) == 40, determinant(p, rows) != 0)
            self.assertEqual(rank_of(p, rows[:20] * 2), rank_of(p, rows[:20]))

    def test_twelve_rows_of_twelve_fractions(self):
        chance = random.Random(12)
        rows = []
        for _ in range(12):
            row = [Fraction(chance.randrange(-999999, 10 ** 6), chance.randrange(1, 10 ** 6)) for _ in range(12)]
            rows.append(tuple(by_hand.told(0, x) for x in row))
        self.assertEqual(rank_of(0, rows), 12)
        self.assertNotEqual(determinant(0, rows), (0, 1))
        self.assertEqual(rank_of(0, rows[:11] + rows[:1]), 11)
        self.assertEqual(determinant(0, rows[:11] + rows[:1]), (0, 1))


class Determinant(unittest.TestCase):
    def test_against_all_ways(self):
        chance = random.Random(5)
        for p in FIELDS:
            for many in range(5):
                for _ in range(12):
                    rows = some_rows(chance, p, many, many)
                    answer = determinant(p, rows)
                    self.assertIs(is_number(p, answer), True)
                    self.assertEqual(answer, by_hand.determinant(p, rows), (p, rows))
                    self.assertEqual(answer == number(p, 0), rank_of(p, rows) < many)

    def test_exchanged_rows(self):
        for order in itertools.permutations(range(4)):
            rows = [tuple(int(place == other) for other in range(4)) for place in order]
            self.assertEqual(determinant(7, rows), by_hand.determinant(7, rows))
            self.assertEqual(determinant(0, [tuple((x, 1) for x in row) for row in rows]),
                             by_hand.determinant(0, [tuple((x, 1) for x in row) for row in rows]))


class TableRank(unittest.TestCase):
    def test_rank_of_the_table(self):
        for p, d in worths():
            for n, k in rooms(5):
                self.assertEqual(table_rank(p, d, n, k), rank_of(p, table(p, d, n, k)))

    def test_small_tables_by_all_that_is_made(self):
        for p in (2, 3):
            for d in range(p):
                for n, k in rooms(5):
                    made = by_hand.made(p, table(p, d, n, k), count(n, k))
                    self.assertEqual(p ** table_rank(p, d, n, k), len(made))

    def test_it_is_the_size_of_the_piece(self):
        for p, d in worths():
            for n, k in rooms(8 if p else 6):
                self.assertEqual(table_rank(p, d, n, k), size(p, d, n, k), (p, d, n, k))

    def test_the_determinant_is_a_product_of_quotients(self):
        checked = 0
        for p, d in worths():
            for n, k in rooms(7 if p else 6):
                row = worth_row(p, d, n)
                if number(p, 0) not in row:
                    expected = number(p, 1)
                    for j in range(1, (n - k) // 2 + 1):
                        quotient = over(p, row[k + j], row[j - 1])
                        expected = times(p, expected, power(p, quotient, count(n, k + 2 * j)))
                    self.assertEqual(determinant(p, table(p, d, n, k)), expected)
                    checked += 1
        self.assertGreater(checked, 100)


class NoughtRows(unittest.TestCase):
    def test_all_nought_rows_of_small_rooms(self):
        for p in (2, 3):
            for d in range(p):
                for n, k in rooms(5):
                    many = count(n, k)
                    right = {row for row in itertools.product(range(p), repeat=many) if not any(values_of(p, d, n, k, row))}
                    basis = nought_basis(p, d, n, k)
                    self.assertIs(type(basis), list)
                    self.assertTrue(is_reduced(p, basis))
                    self.assertEqual(by_hand.made(p, basis, many), right)

    def test_as_many_as_the_rank_leaves(self):
        for p, d in worths():
            for n, k in rooms(8 if p else 6):
                basis = nought_basis(p, d, n, k)
                self.assertTrue(is_reduced(p, basis))
                self.assertEqual(len(basis), count(n, k) - table_rank(p, d, n, k))
                for row in basis:
                    self.assertIsNone(judge_nought(p, d, n, k, row))

    def test_the_edges(self):
        for p, d in worths():
            self.assertEqual([nought_basis(p, d, 0, 0), nought_basis(p, d, 1, 1), nought_basis(p, d, 6, 6)], [[], [], []])
        self.assertEqual(nought_basis(7, 0, 4, 0), [(1, 0), (0, 1)])
        self.assertEqual(nought_basis(0, (0, 1), 2, 0), [((1, 1),)])
        self.assertEqual(nought_basis(0, (1, 1), 4, 0), [((1, 1), (-1, 1))])

    def test_the_list_is_the_callers_own(self):
        answer = nought_basis(2, 1, 4, 0)
        answer.clear()
        self.assertEqual(nought_basis(2, 1, 4, 0), [(1, 1)])


class JudgeNought(unittest.TestCase):
    def test_small_rooms(self):
        for p in (2, 3):
            for d in range(p):
                for n, k in rooms(5):
                    for row in itertools.product(range(p), repeat=count(n, k)):
                        told = values_of(p, d, n, k, row)
                        places = [j for j, x in enumerate(told) if x]
                        expected = ("value", places[0], told[places[0]]) if places else None
                        self.assertEqual(judge_nought(p, d, n, k, row), expected)

    def test_fractions(self):
        self.assertIsNone(judge_nought(0, (1, 1), 4, 0, ((1, 2), (-1, 2))))
        self.assertIsNone(judge_nought(0, (1, 1), 4, 0, ((0, 1), (0, 1))))
        self.assertEqual(judge_nought(0, (1, 1), 4, 0, ((1, 2), (1, 2))), ("value", 0, (1, 1)))
        self.assertEqual(judge_nought(0, (2, 1), 4, 0, ((1, 1), (-2, 1))), ("value", 1, (-6, 1)))

    def test_any_value(self):
        for p, d in ((0, (1, 1)), (2, 1), (3, 1), (13, 5)):
            for n, k in ((0, 0), (1, 1), (2, 0), (4, 0), (4, 2)):
                for value in any_values():
                    form = type(value) is tuple and len(value) == count(n, k) and all(is_number(p, x) for x in value)
                    fault = judge_nought(p, d, n, k, value)
                    self.assertEqual(fault == ("form",), not form, repr(value)[:80])

    def test_form(self):
        for value in (None, [1, 1], (1,), (1, 1, 1), (1, 2), (1, True), (False, 0), (1, None), ("1", 1), "11", 11, {}, ()):
            self.assertEqual(judge_nought(2, 1, 4, 0, value), ("form",))
        for value in ((1, 1), ((1, 1), 1), ((2, 2), (1, 1)), [(1, 1), (1, 1)], ((1, 1), [1, 1])):
            self.assertEqual(judge_nought(0, (1, 1), 4, 0, value), ("form",))

    def test_greatest_rooms(self):
        self.assertIsNone(judge_nought(2, 0, 8, 0, (1,) * 14))
        self.assertEqual(len(halves(8, 2)), 28)
        self.assertEqual(judge_nought(13, 5, 8, 2, (1,) + (0,) * 27), ("value", 0, 5 ** 3 % 13))
