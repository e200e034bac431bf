"""loopworth.elements: points [6.1] and [6.2], to the limits of [6.6]."""

import random
import unittest
from fractions import Fraction

from loopworth.elements import (
    added, element, is_element, product_of, scaled, share, turned_element, word_element,
)
from loopworth.fields import is_number, number
from loopworth.pictures import arc, is_picture, of_word, pictures, product, straight
from tests import by_hand
from tests.odd_values import any_values

FIELDS = (0, 2, 3, 5, 7, 11, 13)
CUP, TWO = ("()", "()"), ("||", "||")


def is_element_by_hand(p, n, value):
    if type(value) is not tuple or any(type(pair) is not tuple or len(pair) != 2 for pair in value):
        return False
    if not all(is_picture(picture) and len(picture[0]) == n for picture, x in value):
        return False
    if not all(is_number(p, x) and x != number(p, 0) for picture, x in value):
        return False
    return [picture for picture, x in value] == sorted({picture for picture, x in value})


def some_element(chance, p, n, many):
    """An element with at most so many pictures."""
    some = pictures(n)
    found = sorted(chance.sample(some, min(many, len(some))))
    pairs = [(picture, chance.choice(by_hand.numbers(p))) for picture in found]
    return tuple((picture, x) for picture, x in pairs if x != number(p, 0))


def sums(p, pairs):
    """The element of pairs with Python's own numbers."""
    found = {}
    for picture, x in pairs:
        found[picture] = found.get(picture, 0) + x
    found = {picture: by_hand.told(p, Fraction(x) if p == 0 else x) for picture, x in found.items()}
    return tuple((picture, found[picture]) for picture in sorted(found) if found[picture] != number(p, 0))


def plain_pairs(p, one):
    return [(picture, by_hand.plain(p, x)) for picture, x in one]


def product_by_hand(p, d, one, other):
    pairs = []
    for above, x in plain_pairs(p, one):
        for below, y in plain_pairs(p, other):
            loops, picture = by_hand.product(above, below)
            pairs.append((picture, x * y * by_hand.power(p, d, loops)))
    return sums(p, pairs)


class IsElement(unittest.TestCase):
    def test_any_value(self):
        for p in FIELDS:
            for n in range(4):
                for value in any_values():
                    self.assertIs(is_element(p, n, value), is_element_by_hand(p, n, value), (p, n, repr(value)[:80]))

    def test_right_ones(self):
        for p in FIELDS:
            one = number(p, 1)
            for n in range(7):
                self.assertIs(is_element(p, n, ()), True)
                self.assertIs(is_element(p, n, tuple((picture, one) for picture in pictures(n))), True)
                self.assertIs(is_element(p, n + 1, ((straight(n), one),)), False)
        self.assertIs(is_element(0, 2, ((CUP, (-5, 7)), (TWO, (999999, 999998)))), True)

    def test_orders_and_noughts(self):
        for value in (((TWO, 1), (CUP, 1)), ((CUP, 1), (CUP, 2)), ((CUP, 0),), ((CUP, 5),), ((CUP, -1),), ((CUP, True),)):
            self.assertIs(is_element(5, 2, value), False)
        for value in (((CUP, (0, 1)),), ((CUP, (2, 4)),), ((CUP, 1),), ((CUP, [1, 2]),), ((CUP, (1, -2)),)):
            self.assertIs(is_element(0, 2, value), False)

    def test_lists_and_other_kinds(self):
        for value in ([(CUP, 1)], ([CUP, 1],), ((["()", "()"], 1),), {CUP: 1}, (CUP, 1), ((CUP,),), ((CUP, 1, 1),), None, "", 0, [], {}):
            self.assertIs(is_element(5, 2, value), False)


class Element(unittest.TestCase):
    def test_sums_of_pairs(self):
        chance = random.Random(61)
        for p in FIELDS:
            for n in range(5):
                for many in (0, 1, 2, 7, 30):
                    pairs = [(chance.choice(pictures(n)), chance.choice(by_hand.numbers(p))) for _ in range(many)]
                    before = list(pairs)
                    answer = element(p, pairs)
                    self.assertEqual(pairs, before)
                    self.assertEqual(answer, sums(p, plain_pairs(p, pairs)))
                    self.assertEqual(element(p, tuple(pairs)), answer)
                    self.assertIs(is_element(p, n, answer), True)

    def test_the_edges(self):
        for p in FIELDS:
            self.assertEqual(element(p, []), ())
            self.assertEqual(element(p, [(CUP, number(p, 0))]), ())
            self.assertEqual(element(p, [(CUP, number(p, 1)), (CUP, number(p, -1))]), ())
            self.assertEqual(element(p, [(("", ""), number(p, 1))]), ((("", ""), number(p, 1)),))

    def test_two_hundred_pairs(self):
        self.assertEqual(element(7, [(TWO, 1), (CUP, 3)] * 100), ((CUP, 300 % 7), (TWO, 100 % 7)))
        self.assertEqual(element(0, [(TWO, (1, 999999))] * 200), ((TWO, (200, 999999)),))
        self.assertEqual(len(element(2, [(picture, 1) for picture in pictures(6)])), 132)

    def test_share(self):
        chance = random.Random(62)
        for p in FIELDS:
            for n in range(5):
                one = some_element(chance, p, n, 6)
                for picture in pictures(n):
                    self.assertEqual(share(p, one, picture), dict(one).get(picture, number(p, 0)))
            self.assertEqual(share(p, (), TWO), number(p, 0))


class Sums(unittest.TestCase):
    def test_added(self):
        chance = random.Random(63)
        for p in FIELDS:
            for n in range(5):
                for _ in range(4):
                    one, other = some_element(chance, p, n, 8), some_element(chance, p, n, 8)
                    answer = added(p, one, other)
                    self.assertEqual(answer, sums(p, plain_pairs(p, one) + plain_pairs(p, other)))
                    self.assertIs(is_element(p, n, answer), True)
                    self.assertEqual(added(p, other, one), answer)
                    self.assertEqual([added(p, one, ()), added(p, (), one)], [one, one])
                    self.assertEqual(added(p, one, scaled(p, one, number(p, -1))), ())

    def test_scaled(self):
        chance = random.Random(64)
        for p in FIELDS:
            for n in range(5):
                one = some_element(chance, p, n, 8)
                for x in by_hand.numbers(p):
                    expected = sums(p, [(picture, y * by_hand.plain(p, x)) for picture, y in plain_pairs(p, one)])
                    self.assertEqual(scaled(p, one, x), expected)
                self.assertEqual(scaled(p, one, number(p, 0)), ())
                self.assertEqual(scaled(p, one, number(p, 1)), one)
            self.assertEqual([scaled(p, (), number(p, 1)), added(p, (), ())], [(), ()])


class Products(unittest.TestCase):
    def test_against_sums(self):
        chance = random.Random(65)
        for p in FIELDS:
            for d in by_hand.numbers(p)[:5]:
                for n in range(5):
                    one, other = some_element(chance, p, n, 5), some_element(chance, p, n, 5)
                    answer = product_of(p, d, one, other)
                    self.assertEqual(answer, product_by_hand(p, d, one, other))
                    self.assertIs(is_element(p, n, answer), True)

    def test_the_one_above_the_other(self):
        up, down = ((arc(3, 0), 1),), ((arc(3, 1), 1),)
        self.assertEqual(product_of(5, 2, up, down), ((("()|", "|()"), 1),))
        self.assertEqual(product_of(5, 2, down, up), ((("|()", "()|"), 1),))

    def test_no_loops_with_a_nought_worth(self):
        for p in FIELDS:
            nought, one = number(p, 0), number(p, 1)
            self.assertEqual(product_of(p, nought, ((CUP, one),), ((TWO, one),)), ((CUP, one),))
            self.assertEqual(product_of(p, nought, ((CUP, one),), ((CUP, one),)), ())
            self.assertEqual(product_of(p, nought, ((("", ""), one),), ((("", ""), one),)), ((("", ""), one),))

    def test_empty_and_straight(self):
        chance = random.Random(66)
        for p in FIELDS:
            d = by_hand.numbers(p)[1]
            for n in range(5):
                one = some_element(chance, p, n, 6)
                unit = ((straight(n), number(p, 1)),)
                self.assertEqual([product_of(p, d, one, ()), product_of(p, d, (), one)], [(), ()])
                self.assertEqual([product_of(p, d, one, unit), product_of(p, d, unit, one)], [one, one])

    def test_three_in_either_way_and_turned(self):
        chance = random.Random(67)
        for p in FIELDS:
            d = by_hand.numbers(p)[-1]
            one, two, three = [some_element(chance, p, 4, 5) for _ in range(3)]
            left = product_of(p, d, product_of(p, d, one, two), three)
            self.assertEqual(product_of(p, d, one, product_of(p, d, two, three)), left)
            self.assertEqual(turned_element(product_of(p, d, one, two)),
                             product_of(p, d, turned_element(two), turned_element(one)))

    def test_fifty_pictures_of_six_points(self):
        chance = random.Random(68)
        for p, d in ((0, (999999999999, 999999999998)), (13, 5)):
            some = sorted(chance.sample(pictures(6), 50))
            one = tuple((picture, (1, chance.randrange(1, 10 ** 6)) if p == 0 else chance.randrange(1, p)) for picture in some)
            answer = product_of(p, d, one, one)
            self.assertIs(is_element(p, 6, answer), True)
            self.assertEqual(turned_element(answer), product_of(p, d, turned_element(one), turned_element(one)))


class WordsAndTurned(unittest.TestCase):
    def test_words(self):
        chance = random.Random(69)
        for p in FIELDS:
            for d in by_hand.numbers(p)[:4]:
                for n in (2, 3, 4, 6):
                    for many in (0, 1, 2, 3, 8, 40):
                        word = tuple(chance.randrange(n - 1) for _ in range(many))
                        loops, picture = of_word(n, word)
                        expected = sums(p, [(picture, by_hand.power(p, d, loops))])
                        self.assertEqual(word_element(p, d, n, word), expected)

    def test_no_letters(self):
        for p in FIELDS:
            for d in by_hand.numbers(p):
                for n in range(7):
                    self.assertEqual(word_element(p, d, n, ()), ((straight(n), number(p, 1)),))

    def test_a_nought_worth(self):
        self.assertEqual([word_element(5, 0, 2, (0,)), word_element(5, 0, 2, (0, 0))], [((CUP, 1),), ()])
        self.assertEqual([word_element(0, (0, 1), 2, (0,)), word_element(0, (0, 1), 2, (0, 0))], [((CUP, (1, 1)),), ()])

    def test_turned(self):
        chance = random.Random(70)
        for p in FIELDS:
            for n in range(6):
                one = some_element(chance, p, n, 20)
                answer = turned_element(one)
                self.assertEqual(dict(answer), {(bottom, top): x for (top, bottom), x in one})
                self.assertIs(is_element(p, n, answer), True)
                self.assertEqual(turned_element(answer), one)
        self.assertEqual(turned_element(()), ())

    def test_all_small_products(self):
        for one in pictures(3):
            for other in pictures(3):
                loops, picture = product(one, other)
                self.assertEqual(product_of(7, 3, ((one, 2),), ((other, 4),)), ((picture, 8 * 3 ** loops % 7),))
