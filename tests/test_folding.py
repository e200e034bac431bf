"""loopworth.folding: point [9.1] and the pictures of [9.2], to the limits of [9.6]."""

import random
import unittest

from loopworth.errors import BadHalf, LoopError
from loopworth.folding import closed_last, fold, loops_round, pictures_by_folds, unfold
from loopworth.halves import all_halves, count, half_of, halves, is_half, loose
from loopworth.less import grown
from loopworth.pictures import arc, is_picture, pictures, product, straight, turned
from tests import by_hand


def some_picture(chance, n):
    k = chance.randrange(n % 2, n + 1, 2)
    return tuple(half_of(n, k, chance.randrange(count(n, k))) for _ in range(2))


class Fold(unittest.TestCase):
    def test_all_small_pictures(self):
        for n in range(6):
            for picture in pictures(n):
                half = fold(picture)
                self.assertEqual(half, by_hand.fold(picture))
                self.assertTrue(is_half(half) and len(half) == 2 * n and loose(half) == 0)
                self.assertEqual(unfold(half), picture)

    def test_thirty_points(self):
        chance = random.Random(91)
        for n in (12, 29, 30):
            for _ in range(20):
                picture = some_picture(chance, n)
                self.assertEqual(fold(picture), by_hand.fold(picture))
                self.assertEqual(unfold(fold(picture)), picture)

    def test_straight_and_no_points(self):
        self.assertEqual([fold(straight(n)) for n in range(4)], ["", "()", "(())", "((()))"])


class Unfold(unittest.TestCase):
    def test_just_one_picture_for_each_half(self):
        for n in range(6):
            for half in halves(2 * n, 0):
                picture = unfold(half)
                self.assertTrue(is_picture(picture) and len(picture[0]) == n)
                self.assertEqual(fold(picture), half)

    def test_sixty_points(self):
        chance = random.Random(92)
        for _ in range(30):
            half = half_of(60, 0, chance.randrange(count(60, 0)))
            self.assertEqual(fold(unfold(half)), half)

    def test_loose_ends(self):
        wrong = [half for n in range(1, 8) for half in all_halves(n) if loose(half)] + ["|" * 60, "()" * 29 + "||"]
        for half in wrong:
            with self.assertRaises(BadHalf) as caught:
                unfold(half)
            self.assertEqual(caught.exception.told, half)
            self.assertIsInstance(caught.exception, LoopError)


class PicturesByFolds(unittest.TestCase):
    def test_in_the_order_of_their_folds(self):
        for n in range(6):
            found = pictures_by_folds(n)
            self.assertIs(type(found), list)
            self.assertEqual(sorted(found), pictures(n))
            folds = [by_hand.fold(picture) for picture in found]
            self.assertEqual(folds, sorted(folds))
            self.assertEqual(len(found), count(2 * n, 0))

    def test_no_points_and_one_point(self):
        self.assertEqual(pictures_by_folds(0), [("", "")])
        self.assertEqual(pictures_by_folds(1), [("|", "|")])

    def test_not_the_order_of_the_pictures(self):
        self.assertEqual(pictures_by_folds(2), [("||", "||"), ("()", "()")])

    def test_a_new_list_each_time(self):
        pictures_by_folds(2).clear()
        self.assertEqual(len(pictures_by_folds(2)), 2)


class LoopsRound(unittest.TestCase):
    def test_all_small_pictures(self):
        for n in range(6):
            for picture in pictures(n):
                self.assertEqual(loops_round(picture), by_hand.loops_round(picture))
                self.assertEqual(loops_round(turned(picture)), loops_round(picture))

    def test_thirty_points(self):
        chance = random.Random(93)
        for n in (12, 29, 30):
            for _ in range(20):
                picture = some_picture(chance, n)
                self.assertEqual(loops_round(picture), by_hand.loops_round(picture))
        self.assertEqual(loops_round(straight(30)), 30)
        self.assertEqual(loops_round(("()" * 15, "(" + "()" * 14 + ")")), 1)

    def test_no_points(self):
        self.assertEqual(loops_round(("", "")), 0)
        self.assertEqual([loops_round(straight(n)) for n in range(5)], [0, 1, 2, 3, 4])
        self.assertTrue(all(loops_round(picture) >= 1 for n in range(1, 6) for picture in pictures(n)))

    def test_either_way_round(self):
        for one in pictures(4):
            for other in pictures(4):
                (loops, both), (others, around) = product(one, other), product(other, one)
                self.assertEqual(loops + loops_round(both), others + loops_round(around))


class ClosedLast(unittest.TestCase):
    def test_all_small_pictures(self):
        for n in range(1, 6):
            for picture in pictures(n):
                found = closed_last(picture)
                self.assertEqual(found, by_hand.closed_last(picture))
                loops, rest = found
                self.assertTrue(is_picture(rest) and len(rest[0]) == n - 1)
                self.assertEqual(loops + loops_round(rest), loops_round(picture))

    def test_thirty_points(self):
        chance = random.Random(94)
        for n in (12, 29, 30):
            for _ in range(20):
                picture = some_picture(chance, n)
                self.assertEqual(closed_last(picture), by_hand.closed_last(picture))

    def test_one_point(self):
        self.assertEqual(closed_last(("|", "|")), (1, ("", "")))

    def test_grown_pictures_close_a_loop(self):
        for n in range(5):
            for picture in pictures(n):
                self.assertEqual(closed_last(grown(picture)), (1, picture))

    def test_an_arc_between_grown_pictures(self):
        for n in (1, 2, 3):
            for one in pictures(n):
                for other in pictures(n):
                    loops, led = product(grown(one), arc(n + 1, n - 1))
                    further, led = product(led, grown(other))
                    closed, rest = closed_last(led)
                    self.assertEqual((loops + further + closed, rest), product(one, other))

    def test_one_after_another(self):
        for picture in pictures(5):
            loops, rest = 0, picture
            for _ in range(5):
                closed, rest = closed_last(rest)
                loops += closed
            self.assertEqual((loops, rest), (by_hand.loops_round(picture), ("", "")))
