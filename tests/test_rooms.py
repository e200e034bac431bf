"""loopworth.rooms: points [4.1], [4.2] and the values of [4.5], to the limits of [4.6]."""

import random
import unittest
from fractions import Fraction

from loopworth.halves import all_halves, arcs_of, count, half_of, halves, loose, mirrored
from loopworth.rooms import table, value, values_of
from tests import by_hand

FIELDS = (0, 2, 3, 5, 7, 11, 13)


def value_by_hand(p, d, one, other):
    loops, ends = by_hand.glue(one, other)
    if ends != loose(one) or ends != loose(other):
        return by_hand.told(p, Fraction(0) if p == 0 else 0)
    return by_hand.told(p, by_hand.power(p, d, loops))


def values_by_hand(p, d, n, k, row):
    room = halves(n, k)
    found = []
    for y in room:
        total = Fraction(0) if p == 0 else 0
        for x, number in zip(room, row):
            total += by_hand.plain(p, number) * by_hand.plain(p, value_by_hand(p, d, x, y))
        found.append(by_hand.told(p, total))
    return tuple(found)


def rooms(limit):
    return [(n, k) for n in range(limit + 1) for k in range(n % 2, n + 1, 2)]


class Value(unittest.TestCase):
    def test_all_small_halves(self):
        for n in range(6):
            some = all_halves(n)
            for p in FIELDS:
                for d in by_hand.numbers(p)[:5]:
                    for one in some:
                        for other in some:
                            self.assertEqual(value(p, d, one, other), value_by_hand(p, d, one, other))

    def test_no_points(self):
        for p in FIELDS:
            for d in by_hand.numbers(p):
                self.assertEqual(value(p, d, "", ""), 1 if p else (1, 1))

    def test_one_and_no_loops(self):
        for p in FIELDS:
            one, nought = (1, 0) if p else ((1, 1), (0, 1))
            for d in by_hand.numbers(p):
                self.assertEqual(value(p, d, "()", "()"), d)
                self.assertEqual(value(p, d, "|", "|"), one)
                self.assertEqual(value(p, d, "()|", "|()"), one)
                self.assertEqual(value(p, d, "()", "||"), nought)
                self.assertEqual(value(p, d, "()||", "||()"), nought)

    def test_a_half_and_itself(self):
        for half in all_halves(7):
            for p, d in ((7, 3), (2, 0), (0, (-1, 2))):
                expected = by_hand.told(p, by_hand.power(p, d, len(arcs_of(half))))
                self.assertEqual(value(p, d, half, half), expected)

    def test_forty_points(self):
        self.assertEqual(value(0, (2, 1), "()" * 20, "()" * 20), (2 ** 20, 1))
        self.assertEqual(value(0, (2, 1), "()" * 20, "(" * 20 + ")" * 20), (2 ** 10, 1))
        self.assertEqual(value(13, 5, "()" * 20, "(" + "()" * 19 + ")"), 5)
        self.assertEqual(value(0, (1, 999999999999), "()" * 20, "()" * 20), (1, 999999999999 ** 20))
        chance = random.Random(40)
        for k in (0, 2, 10, 38, 40):
            for _ in range(10):
                one, other = [half_of(40, k, chance.randrange(count(40, k))) for _ in range(2)]
                self.assertEqual(value(11, 4, one, other), value_by_hand(11, 4, one, other))

    def test_unlike_numbers_of_loose_ends(self):
        for one, other in (("||", "()"), ("()", "||"), ("()|||", "()()|"), ("()()|", "|||()")):
            self.assertEqual([value(5, 2, one, other), value(0, (2, 1), one, other)], [0, (0, 1)])


class Table(unittest.TestCase):
    def test_all_small_rooms(self):
        for p in FIELDS:
            for d in by_hand.numbers(p)[:4]:
                for n, k in rooms(5):
                    room = halves(n, k)
                    expected = tuple(tuple(value_by_hand(p, d, x, y) for y in room) for x in room)
                    self.assertEqual(table(p, d, n, k), expected)

    def test_it_is_made_of_tuples(self):
        answer = table(7, 3, 4, 2)
        self.assertIs(type(answer), tuple)
        for row in answer:
            self.assertIs(type(row), tuple)

    def test_the_edges(self):
        for p in FIELDS:
            one = 1 if p else (1, 1)
            for d in by_hand.numbers(p):
                self.assertEqual(table(p, d, 0, 0), ((one,),))
                self.assertEqual(table(p, d, 1, 1), ((one,),))
                self.assertEqual(table(p, d, 2, 0), ((d,),))
                self.assertEqual(table(p, d, 6, 6), ((one,),))

    def test_rows_and_columns_and_mirrored_halves(self):
        for n, k in rooms(7):
            found = table(7, 3, n, k)
            self.assertEqual(found, tuple(zip(*found)))
            room = halves(n, k)
            places = [room.index(mirrored(half)) for half in room]
            self.assertEqual(found, tuple(tuple(found[i][j] for j in places) for i in places))

    def test_the_greatest_rooms(self):
        for p in (2, 3, 5, 7, 11, 13):
            for k in (0, 2, 4, 6, 8):
                self.assertEqual(len(table(p, p - 1, 8, k)), count(8, k))
        for k in (0, 2, 4, 6):
            self.assertEqual(len(table(0, (999999999999, 7), 6, k)), count(6, k))


class ValuesOf(unittest.TestCase):
    def test_against_sums(self):
        chance = random.Random(45)
        for p in FIELDS:
            some = by_hand.numbers(p)
            for d in some[:4]:
                for n, k in rooms(6):
                    row = tuple(chance.choice(some) for _ in halves(n, k))
                    answer = values_of(p, d, n, k, row)
                    self.assertIs(type(answer), tuple)
                    self.assertEqual(answer, values_by_hand(p, d, n, k, row))

    def test_rows_of_noughts_and_of_one_one(self):
        for n, k in rooms(6):
            many = count(n, k)
            self.assertEqual(values_of(7, 3, n, k, (0,) * many), (0,) * many)
            self.assertEqual(values_of(0, (3, 1), n, k, ((0, 1),) * many), ((0, 1),) * many)
            for i, row in enumerate(table(7, 3, n, k)):
                unit = tuple(int(i == j) for j in range(many))
                self.assertEqual(values_of(7, 3, n, k, unit), row)
