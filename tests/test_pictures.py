"""loopworth.pictures: points [3.1] to [3.5], to the limits of [3.6]."""

import random
import unittest

from loopworth.halves import all_halves, arcs_of, count, half_of, loose, mirrored
from loopworth.pictures import (
    arc, are_alike, fewest, fewest_length, flipped, glue, is_picture, letters_of, of_word, pictures, product,
    straight, turned,
)
from tests import by_hand
from tests.odd_values import any_values


def far_pictures(n, many, seed):
    """Some pictures of n points, of each number of loose ends."""
    chance = random.Random(seed)
    for k in range(n % 2, n + 1, 2):
        for _ in range(many):
            yield tuple(half_of(n, k, chance.randrange(count(n, k))) for _ in range(2))


class IsPicture(unittest.TestCase):
    def test_any_value(self):
        for value in any_values():
            expected = (
                type(value) is tuple and len(value) == 2 and by_hand.is_half(value[0]) and by_hand.is_half(value[1])
                and len(value[0]) == len(value[1]) and value[0].count("|") == value[1].count("|")
            )
            self.assertIs(is_picture(value), expected, repr(value)[:80])

    def test_all_pairs_of_halves(self):
        some = [half for n in range(5) for half in all_halves(n)]
        for top in some:
            for bottom in some:
                expected = len(top) == len(bottom) and loose(top) == loose(bottom)
                self.assertIs(is_picture((top, bottom)), expected)

    def test_the_edges(self):
        for value in (("", ""), ("|", "|"), ("()", "()"), ("(" * 15 + ")" * 15, "()" * 15)):
            self.assertIs(is_picture(value), True)
        for value in (["()", "()"], ("()", "||"), ("", "|"), ("()", "()()"), ("(|)", "|()"), (")(", "()")):
            self.assertIs(is_picture(value), False)
        for value in (("()",), ("()", "()", "()"), ("()", None), (1, 2), "()", None, (), {"()": "()"}):
            self.assertIs(is_picture(value), False)


class Lists(unittest.TestCase):
    def test_straight_and_arcs(self):
        self.assertEqual([straight(0), straight(1), straight(3)], [("", ""), ("|", "|"), ("|||", "|||")])
        for n in range(2, 13):
            self.assertEqual(straight(n), ("|" * n, "|" * n))
            for i in range(n - 1):
                picture = arc(n, i)
                self.assertIs(is_picture(picture), True)
                for half in picture:
                    self.assertEqual([len(half), arcs_of(half), loose(half)], [n, ((i, i + 1),), n - 2])

    def test_all_pictures(self):
        for n in range(7):
            some = all_halves(n)
            expected = sorted((top, bottom) for top in some for bottom in some if loose(top) == loose(bottom))
            self.assertEqual(pictures(n), expected)
        self.assertEqual([pictures(0), pictures(1)], [[("", "")], [("|", "|")]])

    def test_to_seven_points(self):
        self.assertEqual([len(pictures(n)) for n in range(8)], [count(2 * n, 0) for n in range(8)])
        self.assertEqual(pictures(7), sorted(set(pictures(7))))

    def test_the_list_is_the_callers_own(self):
        answer = pictures(3)
        self.assertIs(type(answer), list)
        answer.clear()
        self.assertEqual(len(pictures(3)), 5)


class TurnedAndFlipped(unittest.TestCase):
    def test_all_small_ones(self):
        for n in range(6):
            for picture in pictures(n):
                top, bottom = picture
                self.assertEqual(turned(picture), (bottom, top))
                self.assertEqual(flipped(picture), (mirrored(top), mirrored(bottom)))
                self.assertIs(is_picture(flipped(picture)), True)

    def test_thirty_points(self):
        picture = ("(())" * 5 + "|" * 10, "|" * 9 + "()" * 10 + "|")
        self.assertEqual(turned(picture), picture[::-1])
        self.assertEqual(flipped(picture), ("|" * 10 + "(())" * 5, "|" + "()" * 10 + "|" * 9))


class Glue(unittest.TestCase):
    def test_all_small_ones(self):
        for n in range(7):
            some = all_halves(n)
            for one in some:
                for other in some:
                    self.assertEqual(glue(one, other), by_hand.glue(one, other), (one, other))

    def test_twelve_points(self):
        chance = random.Random(12)
        some = all_halves(12)
        for _ in range(300):
            one, other = chance.choice(some), chance.choice(some)
            self.assertEqual(glue(one, other), by_hand.glue(one, other), (one, other))

    def test_the_edges(self):
        self.assertEqual([glue("", ""), glue("|", "|"), glue("()", "()"), glue("()", "||"), glue("||", "()")],
                         [(0, 0), (0, 1), (1, 0), (0, 0), (0, 0)])
        self.assertEqual([glue("(()())", "()()()"), glue("(())", "()()"), glue("|" * 12, "|" * 12)], [(1, 0), (1, 0), (0, 12)])
        self.assertEqual([glue("|" * 12, "()" * 6), glue("()" * 6, "|" * 12), glue("(((())))||||", "()()()()||||")],
                         [(0, 0), (0, 0), (2, 4)])

    def test_a_half_and_itself(self):
        for half in all_halves(9):
            self.assertEqual(glue(half, half), (len(arcs_of(half)), loose(half)))


class Product(unittest.TestCase):
    def test_all_small_ones(self):
        for n in range(5):
            for one in pictures(n):
                for other in pictures(n):
                    self.assertEqual(product(one, other), by_hand.product(one, other), (one, other))

    def test_more_points(self):
        for n in (5, 8, 11, 12):
            some = list(far_pictures(n, 4, n))
            for one in some:
                for other in some:
                    answer = product(one, other)
                    self.assertEqual(answer, by_hand.product(one, other), (one, other))
                    self.assertIs(is_picture(answer[1]), True)

    def test_no_points_and_one_point(self):
        self.assertEqual(product(("", ""), ("", "")), (0, ("", "")))
        self.assertEqual(product(("|", "|"), ("|", "|")), (0, ("|", "|")))

    def test_straight_changes_nothing(self):
        for n in range(6):
            for picture in pictures(n):
                self.assertEqual(product(straight(n), picture), (0, picture))
                self.assertEqual(product(picture, straight(n)), (0, picture))

    def test_three_in_either_way(self):
        some = list(far_pictures(8, 3, 3))
        for one in some:
            for two in some:
                for three in some:
                    first, left = product(one, two)
                    more, left = product(left, three)
                    last, right = product(two, three)
                    further, right = product(one, right)
                    self.assertEqual((first + more, left), (last + further, right))

    def test_turned_ones_the_other_way_round(self):
        for one in pictures(4):
            for other in pictures(4):
                loops, picture = product(one, other)
                self.assertEqual(product(turned(other), turned(one)), (loops, turned(picture)))

    def test_the_rules_of_arcs(self):
        for n in range(2, 13):
            for i in range(n - 1):
                self.assertEqual(product(arc(n, i), arc(n, i)), (1, arc(n, i)))
                for j in range(n - 1):
                    if abs(i - j) == 1:
                        self.assertEqual(of_word(n, (i, j, i)), (0, arc(n, i)))
                    if abs(i - j) > 1:
                        self.assertEqual(product(arc(n, i), arc(n, j)), product(arc(n, j), arc(n, i)))


class Words(unittest.TestCase):
    def test_one_after_the_other(self):
        chance = random.Random(4)
        for n in (2, 3, 4, 7, 12):
            for many in (0, 1, 2, 5, 13, 60):
                word = tuple(chance.randrange(n - 1) for _ in range(many))
                loops, picture = 0, straight(n)
                for i in word:
                    more, picture = by_hand.product(picture, arc(n, i))
                    loops += more
                self.assertEqual(of_word(n, word), (loops, picture))

    def test_the_first_letter_lies_above(self):
        self.assertEqual(of_word(3, (0, 1)), (0, ("()|", "|()")))
        self.assertEqual(of_word(3, (1, 0)), (0, ("|()", "()|")))

    def test_no_letters(self):
        for n in range(13):
            self.assertEqual(of_word(n, ()), (0, straight(n)))
            self.assertIs(are_alike(n, (), ()), True)

    def test_sixty_letters(self):
        self.assertEqual(of_word(12, (5,) * 60), (59, arc(12, 5)))
        self.assertEqual(of_word(2, (0,) * 60), (59, arc(2, 0)))

    def test_alike(self):
        self.assertIs(are_alike(4, (0, 2), (2, 0)), True)
        self.assertIs(are_alike(3, (0, 1, 0), (0,)), True)
        self.assertIs(are_alike(3, (0, 1), (1, 0)), False)
        self.assertIs(are_alike(4, (0, 0), (0,)), False)
        self.assertIs(are_alike(2, (0, 0), (0, 0)), True)
        self.assertIs(are_alike(3, (), (0,)), False)
        self.assertIs(are_alike(12, (3, 4, 3, 7) * 15, (7, 3) * 15), True)
        self.assertIs(are_alike(12, (3, 4, 3, 7) * 15, (7, 3) * 14 + (7, 4)), False)


def letters_by_hand(picture):
    """For each gap half the number of lines with points on both sides of it."""
    n = len(picture[0])
    found = []
    for i in range(n - 1):
        sides = [{point <= i for _, point in line} for line in by_hand.lines_of(picture, "a", "b")]
        found.append(sum(len(side) == 2 for side in sides) // 2)
    return tuple(found)


class Shortest(unittest.TestCase):
    def test_letters(self):
        for n in range(8):
            for picture in pictures(n):
                self.assertEqual(letters_of(picture), letters_by_hand(picture))
                self.assertIs(type(letters_of(picture)), tuple)

    def test_the_edges(self):
        self.assertEqual([letters_of(("", "")), letters_of(("|", "|")), letters_of(("||", "||"))], [(), (), (0,)])
        self.assertEqual([fewest(("", "")), fewest(("|", "|")), fewest(straight(12))], [(), (), ()])
        self.assertEqual([fewest_length(("", "")), fewest_length(("|", "|")), fewest_length(straight(12))], [0, 0, 0])
        self.assertEqual(fewest(("()", "()")), (0,))
        for n in range(2, 13):
            for i in range(n - 1):
                self.assertEqual(fewest(arc(n, i)), (i,))

    def check_word(self, picture):
        n = len(picture[0])
        word = fewest(picture)
        self.assertIs(type(word), tuple)
        self.assertEqual(of_word(n, word), (0, picture))
        self.assertEqual(tuple(word.count(i) for i in range(n - 1)), letters_of(picture))
        self.assertEqual(fewest_length(picture), len(word))

    def test_words_of_all_pictures(self):
        for n in range(8):
            for picture in pictures(n):
                self.check_word(picture)

    def test_no_word_has_fewer_letters(self):
        for n in range(7):
            steps = {straight(n): 0}
            edge = [straight(n)]
            while edge:
                reached = []
                for picture in edge:
                    for i in range(n - 1):
                        found = product(picture, arc(n, i))[1]
                        if found not in steps:
                            steps[found] = steps[picture] + 1
                            reached.append(found)
                edge = reached
            self.assertEqual(sorted(steps), pictures(n))
            for picture, many in steps.items():
                self.assertEqual(fewest_length(picture), many)
                self.assertEqual(len(fewest(picture)), many)

    def test_twelve_points(self):
        for n in (9, 12):
            for picture in far_pictures(n, 40, n):
                self.check_word(picture)
        self.check_word(("((((()))))||", "||((((()))))"))
        self.check_word(("(((((())))))", "(((((())))))"))
        self.assertEqual(fewest_length(("(((((())))))", "(((((())))))")), 36)
