"""loopworth.left: point [7.5], to the limits of [7.6]."""

import itertools
import random
import unittest

from loopworth.acting import acted, closure, unit_of
from loopworth.fields import minus, number
from loopworth.halves import count, halves
from loopworth.left import are_left_alike, left_halves, left_matrix, left_table, rest_of
from loopworth.pictures import pictures, product, straight
from loopworth.pieces import size
from loopworth.ranks import judge_nought, nought_basis, rank_of
from loopworth.rooms import value, values_of
from tests import by_hand

PRIMES = (2, 3, 5, 7, 11, 13)
FIELDS = (0,) + PRIMES
FRACTIONS = [(0, 1), (1, 1), (-1, 1), (2, 1), (-2, 3)]
WORTHS = [(p, d) for p in PRIMES for d in range(p)] + [(0, d) for d in FRACTIONS]
SOME = [(2, 0), (2, 1), (3, 0), (3, 1), (5, 1), (5, 2), (7, 0), (13, 5), (0, (0, 1)), (0, (1, 1)), (0, (-2, 3))]
ROOMS = [(n, k) for n in range(7) for k in range(n % 2, n + 1, 2)]


def some_vector(chance, p, n, k):
    return tuple(chance.choice(by_hand.numbers(p)) for _ in range(count(n, k)))


def led_places(p, d, n, k):
    nought = number(p, 0)
    return [min(at for at, x in enumerate(row) if x != nought) for row in nought_basis(p, d, n, k)]


def less(p, one, other):
    return tuple(minus(p, x, y) for x, y in zip(one, other))


class LeftHalves(unittest.TestCase):
    def test_all_but_the_led_ones(self):
        for p, d in WORTHS:
            for n, k in ROOMS:
                led = led_places(p, d, n, k)
                left = left_halves(p, d, n, k)
                self.assertEqual(left, [half for at, half in enumerate(halves(n, k)) if at not in led])
                self.assertEqual(len(left), size(p, d, n, k))

    def test_rooms_that_lose_all_or_nothing(self):
        for p in FIELDS:
            nought, two = number(p, 0), number(p, 2)
            self.assertEqual(left_halves(p, nought, 2, 0), [])
            self.assertEqual(left_halves(p, nought, 6, 0), [])
            self.assertEqual(left_halves(p, nought, 0, 0), [""])
            self.assertEqual(left_halves(p, nought, 1, 1), ["|"])
            self.assertEqual(left_halves(p, two, 3, 3), ["|||"])
        self.assertEqual(left_halves(0, (2, 1), 6, 0), halves(6, 0))

    def test_the_last_ones_are_left(self):
        self.assertEqual(left_halves(2, 1, 4, 0), ["()()"])
        self.assertEqual(left_halves(0, (1, 1), 4, 0), ["()()"])
        self.assertEqual(left_halves(2, 0, 3, 1), ["()|", "|()"])

    def test_eight_points(self):
        for p, d, n, k in ((2, 1, 8, 2), (13, 0, 8, 2), (5, 1, 8, 0), (0, (1, 1), 6, 2)):
            left = left_halves(p, d, n, k)
            self.assertEqual(len(left), size(p, d, n, k))
            self.assertEqual(left, sorted(left))

    def test_a_new_list_each_time(self):
        found = left_halves(2, 0, 4, 2)
        found.append("||||")
        self.assertEqual(left_halves(2, 0, 4, 2), ["|()|", "||()"])


class LeftTable(unittest.TestCase):
    def test_values_of_the_left_halves(self):
        for p, d in SOME:
            for n, k in ROOMS:
                left = left_halves(p, d, n, k)
                found = left_table(p, d, n, k)
                self.assertEqual(found, tuple(tuple(value(p, d, one, other) for other in left) for one in left))
                self.assertEqual(rank_of(p, found), len(left))

    def test_nothing_left(self):
        for p in FIELDS:
            self.assertEqual(left_table(p, number(p, 0), 4, 0), ())
            self.assertEqual(left_table(p, number(p, 0), 0, 0), ((number(p, 1),),))


class RestOf(unittest.TestCase):
    def test_left_alike_and_nought_at_the_led_places(self):
        chance = random.Random(75)
        for p, d in SOME:
            for n, k in ROOMS:
                led = led_places(p, d, n, k)
                for _ in range(3):
                    vector = some_vector(chance, p, n, k)
                    rest = rest_of(p, d, n, k, vector)
                    self.assertIsNone(judge_nought(p, d, n, k, less(p, vector, rest)))
                    self.assertEqual({rest[at] for at in led} | {number(p, 0)}, {number(p, 0)})
                    self.assertEqual(rest_of(p, d, n, k, rest), rest)

    def test_just_one(self):
        for p, d in ((2, 0), (2, 1), (3, 0), (3, 1)):
            for n, k in ((2, 0), (3, 1), (4, 0), (4, 2)):
                led = led_places(p, d, n, k)
                every = list(itertools.product(range(p), repeat=count(n, k)))
                for vector in every:
                    fit = [
                        other for other in every
                        if not any(other[at] for at in led)
                        and judge_nought(p, d, n, k, less(p, vector, other)) is None
                    ]
                    self.assertEqual([rest_of(p, d, n, k, vector)], fit)

    def test_nought_rows_leave_noughts(self):
        for p, d in SOME:
            for n, k in ROOMS:
                noughts = (number(p, 0),) * count(n, k)
                for row in nought_basis(p, d, n, k) + [noughts]:
                    self.assertEqual(rest_of(p, d, n, k, row), noughts)

    def test_nothing_left(self):
        self.assertEqual(rest_of(5, 0, 4, 0, (3, 4)), (0, 0))
        self.assertEqual(rest_of(0, (0, 1), 2, 0, ((3, 4),)), ((0, 1),))

    def test_eight_points(self):
        chance = random.Random(76)
        for p, d, n, k in ((2, 1, 8, 2), (3, 0, 8, 2), (13, 1, 8, 0), (0, (0, 1), 6, 2)):
            vector = some_vector(chance, p, n, k)
            rest = rest_of(p, d, n, k, vector)
            self.assertEqual(values_of(p, d, n, k, rest), values_of(p, d, n, k, vector))
            self.assertEqual({rest[at] for at in led_places(p, d, n, k)}, {number(p, 0)})


class AreLeftAlike(unittest.TestCase):
    def test_by_the_difference(self):
        for p, d in ((2, 0), (2, 1), (3, 0), (3, 1)):
            for n, k in ((2, 0), (3, 1), (4, 0), (4, 2)):
                every = list(itertools.product(range(p), repeat=count(n, k)))
                for one, other in itertools.product(every, repeat=2):
                    expected = judge_nought(p, d, n, k, less(p, one, other)) is None
                    self.assertIs(are_left_alike(p, d, n, k, one, other), expected)
                    same = rest_of(p, d, n, k, one) == rest_of(p, d, n, k, other)
                    self.assertIs(are_left_alike(p, d, n, k, one, other), same)

    def test_fractions(self):
        one, other = ((1, 2), (1, 3)), ((1, 3), (1, 2))
        self.assertIs(are_left_alike(0, (1, 1), 4, 0, one, other), True)
        self.assertIs(are_left_alike(0, (2, 1), 4, 0, one, other), False)
        self.assertIs(are_left_alike(0, (2, 1), 4, 0, one, one), True)
        self.assertIs(are_left_alike(0, (0, 1), 2, 0, ((1, 2),), ((7, 1),)), True)


class LeftMatrix(unittest.TestCase):
    def by_hand(self, p, d, n, k, picture):
        left = left_halves(p, d, n, k)
        rows = []
        for half in left:
            rest = rest_of(p, d, n, k, acted(p, d, n, k, picture, unit_of(p, n, k, half)))
            rows.append(tuple(x for other, x in zip(halves(n, k), rest) if other in left))
        return tuple(rows)

    def test_rests_of_what_pictures_make(self):
        for p, d in SOME:
            for n, k in ((0, 0), (1, 1), (2, 0), (2, 2), (3, 1), (4, 0), (4, 2)):
                for picture in pictures(n):
                    self.assertEqual(left_matrix(p, d, n, k, picture), self.by_hand(p, d, n, k, picture))

    def test_straight(self):
        for p, d in SOME:
            for n, k in ROOMS:
                many = size(p, d, n, k)
                expected = tuple(tuple(number(p, int(i == j)) for j in range(many)) for i in range(many))
                self.assertEqual(left_matrix(p, d, n, k, straight(n)), expected)

    def test_products(self):
        chance = random.Random(77)
        for p, d in SOME:
            for n, k in ((4, 0), (4, 2), (5, 1), (6, 2)):
                some = pictures(n)
                for _ in range(4):
                    one, other = chance.choice(some), chance.choice(some)
                    loops, both = product(one, other)
                    factor = by_hand.power(p, d, loops)
                    upper, lower = left_matrix(p, d, n, k, one), left_matrix(p, d, n, k, other)
                    expected = left_matrix(p, d, n, k, both)
                    for row, whole in zip(lower, expected):
                        for at in range(len(upper)):
                            total = sum(
                                (by_hand.plain(p, x) * by_hand.plain(p, upper[i][at]) for i, x in enumerate(row)),
                                0 * by_hand.plain(p, number(p, 0)),
                            )
                            self.assertEqual(by_hand.told(p, total), by_hand.told(p, factor * by_hand.plain(p, whole[at])))

    def test_nothing_left(self):
        for p in FIELDS:
            for picture in pictures(2):
                self.assertEqual(left_matrix(p, number(p, 0), 2, 0, picture), ())

    def test_eight_points(self):
        picture = ("()|||()|", "||()()||")
        self.assertEqual(left_matrix(2, 1, 8, 2, picture), self.by_hand(2, 1, 8, 2, picture))


class RoomsWithoutHalves(unittest.TestCase):
    def test_nothing_is_left(self):
        for p, d in SOME:
            self.assertEqual([left_halves(p, d, 3, 0), left_table(p, d, 3, 0), rest_of(p, d, 3, 0, ())], [[], (), ()])
            self.assertEqual(left_matrix(p, d, 3, 0, straight(3)), ())
            self.assertIs(are_left_alike(p, d, 3, 0, (), ()), True)


class OnePiece(unittest.TestCase):
    def test_nothing_but_noughts_and_all_is_closed_among_what_is_left(self):
        chance = random.Random(78)
        for p, d in WORTHS:
            for n, k in ((3, 1), (4, 0), (4, 2), (5, 1)):
                left = left_halves(p, d, n, k)
                vector = rest_of(p, d, n, k, some_vector(chance, p, n, k))
                if vector != (number(p, 0),) * count(n, k):
                    come = closure(p, d, n, k, [vector])
                    rests = [rest_of(p, d, n, k, row) for row in come]
                    self.assertEqual(rank_of(p, rests), len(left))
