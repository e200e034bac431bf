"""loopworth.halves: points [2.1] to [2.4], to the limits of [2.5]."""

import itertools
import unittest

from loopworth.errors import BadHalf, LoopError
from loopworth.halves import (
    all_halves, arcs_of, count, half_along, half_by, half_number, half_of, halves, is_half, loose, mirrored, near,
    next_half, partner, path, points,
)
from tests import by_hand
from tests.odd_values import any_values

HALF = "(())|()"
SMALL = [half for n in range(8) for half in all_halves(n)]
LONG = ("(" * 30 + ")" * 30, "()" * 30, "|" * 60, "|()" * 20, "(())||" * 10, "|" + "(" * 29 + ")" * 29 + "|")


class IsHalf(unittest.TestCase):
    def test_all_short_texts(self):
        for n in range(8):
            for signs in itertools.product("()|", repeat=n):
                text = "".join(signs)
                self.assertIs(is_half(text), by_hand.is_half(text), text)

    def test_any_value(self):
        for value in any_values():
            self.assertIs(is_half(value), by_hand.is_half(value), repr(value)[:80])

    def test_the_edges(self):
        for value in ("", "|", "()", "||", "|()|", "(()())", HALF) + LONG:
            self.assertIs(is_half(value), True)
        for value in ("(", ")", ")(", "(|)", "((|))", "|(", ")|", "())", "(()", "() ", "()\n", "[]", "I"):
            self.assertIs(is_half(value), False)

    def test_other_kinds(self):
        for value in (None, True, 0, (), ("",), [""], ["(", ")"], ("(", ")"), {"": ""}, {}):
            self.assertIs(is_half(value), False)


class Parts(unittest.TestCase):
    def test_points_and_loose_ends(self):
        for half in SMALL + list(LONG):
            self.assertEqual(points(half), len(half))
            self.assertEqual(loose(half), len([sign for sign in half if sign == "|"]))
            self.assertEqual(points(half), loose(half) + 2 * len(arcs_of(half)))
        self.assertEqual([points(""), loose(""), points("|"), loose("|"), loose("()")], [0, 0, 1, 1, 0])

    def test_arcs(self):
        for half in SMALL:
            self.assertIs(type(arcs_of(half)), tuple)
            self.assertEqual(list(arcs_of(half)), sorted(by_hand.arcs(half)))
        self.assertEqual(arcs_of(""), ())
        self.assertEqual(arcs_of("||"), ())
        self.assertEqual(arcs_of(LONG[0]), tuple((i, 59 - i) for i in range(30)))

    def test_partners(self):
        for half in SMALL:
            met = {i: None for i in range(len(half))}
            for i, j in by_hand.arcs(half):
                met[i], met[j] = j, i
            self.assertEqual({i: partner(half, i) for i in range(len(half))}, met)
        self.assertIsNone(partner("|", 0))
        self.assertEqual([partner(LONG[0], i) for i in (0, 29, 30, 59)], [59, 30, 29, 0])

    def test_near(self):
        for half in SMALL:
            self.assertIs(type(near(half)), tuple)
            self.assertEqual(near(half), tuple(i for i, j in arcs_of(half) if j == i + 1))
        self.assertEqual([near(""), near("|"), near("||"), near("()"), near("|(()())()")], [(), (), (), (0,), (2, 4, 7)])


class Mirrored(unittest.TestCase):
    def test_point_i_is_point_n_less_1_less_i(self):
        for half in SMALL + list(LONG):
            n = len(half)
            other = mirrored(half)
            self.assertIs(is_half(other), True)
            self.assertEqual(sorted((n - 1 - j, n - 1 - i) for i, j in arcs_of(half)), list(arcs_of(other)))
            self.assertEqual(mirrored(other), half)

    def test_the_edges(self):
        self.assertEqual([mirrored(""), mirrored("|"), mirrored("()"), mirrored("()|")], ["", "|", "()", "|()"])


class Lists(unittest.TestCase):
    def test_halves(self):
        for n in range(9):
            for k in range(n + 3):
                self.assertEqual(halves(n, k), sorted(by_hand.halves(n, k)), (n, k))

    def test_the_edges(self):
        self.assertEqual([halves(0, 0), halves(1, 1), halves(1, 0), halves(5, 5)], [[""], ["|"], [], ["|||||"]])
        self.assertEqual([halves(0, 1), halves(0, 2), halves(3, 4), halves(4, 3), halves(2, 4)], [[]] * 5)
        self.assertEqual([all_halves(0), all_halves(1), all_halves(2)], [[""], ["|"], ["()", "||"]])

    def test_all_halves(self):
        for n in range(9):
            found = [half for k in range(n + 1) for half in by_hand.halves(n, k)]
            self.assertEqual(all_halves(n), sorted(found))

    def test_to_twelve_points(self):
        for n in range(13):
            lists = [halves(n, k) for k in range(n + 1)]
            for k, found in enumerate(lists):
                self.assertEqual(len(found), count(n, k))
                self.assertEqual(found, sorted(set(found)))
                self.assertTrue(all(is_half(half) and len(half) == n and loose(half) == k for half in found))
            self.assertEqual(all_halves(n), sorted(sum(lists, [])))
        self.assertEqual([len(all_halves(12)), len(all_halves(11))], [924, 462])

    def test_lists_are_the_callers_own(self):
        for function, arguments in ((halves, (4, 2)), (halves, (3, 0)), (all_halves, (3,))):
            answer = function(*arguments)
            self.assertIs(type(answer), list)
            first = list(answer)
            answer.append("x")
            self.assertEqual(function(*arguments), first)


class Count(unittest.TestCase):
    def test_as_many_as_there_are(self):
        for n in range(9):
            for k in range(n + 4):
                self.assertEqual(count(n, k), len(by_hand.halves(n, k)))

    def test_each_half_comes_of_one_with_one_point_less(self):
        for n in range(1, 201):
            for k in range(n + 3):
                before = count(n - 1, k - 1) if k else 0
                self.assertEqual(count(n, k), before + count(n - 1, k + 1))

    def test_the_edges(self):
        self.assertEqual([count(0, 0), count(0, 1), count(0, 2), count(1, 0), count(1, 1), count(2, 1)], [1, 0, 0, 0, 1, 0])
        self.assertEqual([count(200, 200), count(200, 199), count(200, 198), count(199, 200), count(0, 200)], [1, 0, 199, 0, 0])


class Paths(unittest.TestCase):
    def test_heights(self):
        for half in SMALL + list(LONG):
            heights = path(half)
            self.assertIs(type(heights), tuple)
            self.assertEqual([heights[0], heights[-1], len(heights)], [0, loose(half), len(half) + 1])
            for i, sign in enumerate(half):
                self.assertEqual(heights[i + 1] - heights[i], -1 if sign == ")" else 1)
            self.assertGreaterEqual(min(heights), 0)

    def test_the_edges(self):
        self.assertEqual([path(""), path("|"), path("()"), path("||")], [(0,), (0, 1), (0, 1, 0), (0, 1, 2)])
        self.assertEqual([half_along((0,)), half_along((0, 1)), half_along((0, 1, 0))], ["", "|", "()"])

    def test_there_and_back(self):
        for half in SMALL + list(LONG):
            self.assertEqual(half_along(path(half)), half)

    def test_back_and_there(self):
        for n in range(9):
            for steps in itertools.product((1, -1), repeat=n):
                heights = tuple(sum(steps[:i]) for i in range(n + 1))
                if min(heights) >= 0:
                    half = half_along(heights)
                    self.assertIs(is_half(half), True)
                    self.assertEqual(path(half), heights)


class HalfBy(unittest.TestCase):
    def refused(self, n, arcs):
        with self.assertRaises(BadHalf) as caught:
            half_by(n, arcs)
        self.assertEqual(caught.exception.told, arcs)
        self.assertIsInstance(caught.exception, LoopError)

    def test_the_half_of_its_arcs_in_any_order(self):
        for half in SMALL + list(LONG):
            arcs = arcs_of(half)
            self.assertEqual(half_by(len(half), arcs), half)
            self.assertEqual(half_by(len(half), arcs[::-1]), half)
            self.assertEqual(half_by(len(half), arcs[1::2] + arcs[::2]), half)

    def test_all_sets_of_pairs(self):
        for n in range(6):
            pairs = list(itertools.combinations(range(n), 2))
            right = {frozenset(by_hand.arcs(half)): half for half in all_halves(n)}
            for many in range(4):
                for arcs in itertools.product(pairs, repeat=many):
                    if len(set(arcs)) == many and frozenset(arcs) in right:
                        self.assertEqual(half_by(n, arcs), right[frozenset(arcs)])
                    else:
                        self.refused(n, arcs)

    def test_no_arcs(self):
        self.assertEqual([half_by(0, ()), half_by(1, ()), half_by(60, ())], ["", "|", "|" * 60])

    def test_a_point_told_twice(self):
        self.refused(2, ((0, 1), (0, 1)))
        self.refused(3, ((0, 1), (1, 2)))
        self.refused(4, ((0, 3), (0, 1)))
        self.refused(4, ((0, 3), (1, 3)))
        self.refused(60, ((0, 1),) * 60)

    def test_arcs_that_cross(self):
        self.refused(4, ((0, 2), (1, 3)))
        self.refused(6, ((1, 3), (0, 2), (4, 5)))
        self.refused(60, tuple((i, i + 30) for i in range(30)))

    def test_a_loose_point_beneath_an_arc(self):
        self.refused(3, ((0, 2),))
        self.refused(5, ((0, 4), (1, 2)))
        self.refused(60, ((0, 59),))

    def test_no_such_point(self):
        self.refused(0, ((0, 1),))
        self.refused(4, ((0, 1), (2, 4)))
        self.refused(4, ((0, 1), (5, 6)))

    def test_the_error_keeps_a_copy_of_a_list(self):
        arcs = [(0, 2), (1, 3)]
        with self.assertRaises(BadHalf) as caught:
            half_by(4, arcs)
        arcs.append((0, 1))
        self.assertEqual(caught.exception.told, [(0, 2), (1, 3)])


class Numbers(unittest.TestCase):
    def test_there_and_back(self):
        for n in range(11):
            for k in range(n + 1):
                for number, half in enumerate(halves(n, k)):
                    self.assertEqual(half_number(half), number)
                    self.assertEqual(half_of(n, k, number), half)

    def test_the_next_one(self):
        for n in range(11):
            for k in range(n + 1):
                found = halves(n, k)
                for half, following in zip(found, found[1:] + [None]):
                    self.assertEqual(next_half(half), following)

    def test_sixty_points(self):
        for k in range(0, 61, 2):
            many = count(60, k)
            for number in {0, 1, many // 3, many // 2, many - 2, many - 1}:
                if 0 <= number < many:
                    half = half_of(60, k, number)
                    self.assertIs(is_half(half), True)
                    self.assertEqual([len(half), loose(half), half_number(half)], [60, k, number])
                    following = next_half(half)
                    if number == many - 1:
                        self.assertIsNone(following)
                    else:
                        self.assertGreater(following, half)
                        self.assertEqual(following, half_of(60, k, number + 1))

    def test_the_first_and_the_last_of_sixty(self):
        self.assertEqual(half_of(60, 0, 0), "(" * 30 + ")" * 30)
        self.assertEqual(half_of(60, 0, count(60, 0) - 1), "()" * 30)
        self.assertEqual(half_of(60, 60, 0), "|" * 60)
        self.assertEqual(half_of(59, 1, count(59, 1) - 1), "|" + "()" * 29)

    def test_the_edges(self):
        self.assertEqual([half_of(0, 0, 0), half_of(1, 1, 0), half_of(2, 0, 0)], ["", "|", "()"])
        self.assertEqual([half_number(""), half_number("|"), half_number("()")], [0, 0, 0])
        self.assertEqual([next_half(""), next_half("|"), next_half("()"), next_half("||||")], [None] * 4)

    def test_numbers_that_there_are_not(self):
        wrong = [(0, 0, 1), (1, 1, 1), (4, 2, 3), (4, 2, 10 ** 30), (60, 0, count(60, 0)), (60, 60, 1), (12, 0, 132)]
        other_ends = [(4, 1, 0), (4, 6, 0), (4, 5, 0), (0, 1, 0), (0, 2, 0), (1, 0, 0), (3, 10 ** 9, 7), (4, -2, 0), (3, -1, 0)]
        for n, k, number in wrong + other_ends:
            with self.subTest(n=n, k=k, number=number):
                with self.assertRaises(BadHalf) as caught:
                    half_of(n, k, number)
                self.assertEqual(caught.exception.told, number)
