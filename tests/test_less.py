"""loopworth.less: points [8.1] to [8.5], to the limits of [8.6]."""

import random
import unittest
from fractions import Fraction

from loopworth.acting import acted, is_vector, unit_of
from loopworth.digits import holds
from loopworth.fields import number
from loopworth.halves import count, half_of, halves, is_half, loose, partner
from loopworth.left import left_matrix
from loopworth.less import (
    cut, falls_apart, grown, join, put_together, rooms_of, split, times, times_down,
)
from loopworth.pictures import arc, is_picture, pictures, product, straight
from loopworth.pieces import pieces_of, size, sizes
from loopworth.ranks import rank_of
from loopworth.worths import length
from tests import by_hand

PRIMES = (2, 3, 5, 7, 11, 13)
FIELDS = (0,) + PRIMES
FRACTIONS = [(0, 1), (1, 1), (-1, 1), (2, 1), (-2, 3)]
WORTHS = [(p, d) for p in PRIMES for d in range(p)] + [(0, d) for d in FRACTIONS]
SOME = [(2, 0), (2, 1), (3, 0), (3, 1), (5, 1), (5, 2), (7, 0), (13, 5), (0, (0, 1)), (0, (1, 1)), (0, (-2, 3))]
ROOMS = [(n, k) for n in range(1, 7) for k in range(n % 2, n + 1, 2)]


def some_vector(chance, p, n, k):
    return tuple(chance.choice(by_hand.numbers(p)) for _ in range(count(n, k)))


def room(n, k):
    return halves(n, k) if 0 <= k <= n else []


def cut_by_hand(half):
    last = len(half) - 1
    if half[last] == "|":
        return half[:-1], False
    found = [i for i, j in by_hand.arcs(half) if j == last][0]
    return "".join("|" if i == found else sign for i, sign in enumerate(half[:-1])), True


class CutAndJoin(unittest.TestCase):
    def test_all_small_halves(self):
        for n in range(1, 9):
            for k in range(n % 2, n + 1, 2):
                for half in halves(n, k):
                    rest, opened = cut(half)
                    self.assertEqual((rest, opened), cut_by_hand(half))
                    self.assertIs(type(opened), bool)
                    self.assertTrue(is_half(rest) and len(rest) == n - 1)
                    self.assertEqual(loose(rest), k + 1 if opened else k - 1)
                    self.assertEqual(join(rest, opened), half)

    def test_each_comes_just_once(self):
        for n in range(1, 9):
            for k in range(n % 2, n + 1, 2):
                come = [join(rest, False) for rest in room(n - 1, k - 1)]
                come += [join(rest, True) for rest in room(n - 1, k + 1)]
                self.assertEqual(sorted(come), halves(n, k))

    def test_joined_halves_are_cut_to_the_same(self):
        for n in range(9):
            for k in range(n % 2, n + 1, 2):
                for rest in halves(n, k):
                    self.assertEqual(cut(join(rest, False)), (rest, False))
                    if k > 0:
                        self.assertEqual(cut(join(rest, True)), (rest, True))

    def test_one_point(self):
        self.assertEqual([cut("|"), join("", False)], [("", False), "|"])
        self.assertEqual([cut("()"), join("|", True)], [("|", True), "()"])

    def test_sixty_points(self):
        chance = random.Random(81)
        for _ in range(60):
            k = chance.randrange(0, 61, 2)
            half = half_of(60, k, chance.randrange(count(60, k)))
            rest, opened = cut(half)
            self.assertEqual(opened, partner(half, 59) is not None)
            self.assertEqual(join(rest, opened), half)
        self.assertEqual(cut("(" * 30 + ")" * 30), ("|" + "(" * 29 + ")" * 29, True))
        self.assertEqual(join("|" * 59, True), "|" * 58 + "()")


class Grown(unittest.TestCase):
    def test_one_more_point(self):
        for n in range(6):
            for top, bottom in pictures(n):
                found = grown((top, bottom))
                self.assertEqual(found, (top + "|", bottom + "|"))
                self.assertTrue(type(found) is tuple and is_picture(found))
        self.assertEqual(grown(("", "")), ("|", "|"))
        self.assertEqual(grown(straight(12)), straight(13))

    def test_products_stay(self):
        for one in pictures(3):
            for other in pictures(3):
                loops, both = product(one, other)
                self.assertEqual(product(grown(one), grown(other)), (loops, grown(both)))


class SplitAndPutTogether(unittest.TestCase):
    def test_by_the_joined_halves(self):
        chance = random.Random(82)
        for p in FIELDS:
            for n, k in ROOMS:
                vector = some_vector(chance, p, n, k)
                numbers = dict(zip(halves(n, k), vector))
                low, high = split(p, n, k, vector)
                self.assertEqual(low, tuple(numbers[join(rest, False)] for rest in room(n - 1, k - 1)))
                self.assertEqual(high, tuple(numbers[join(rest, True)] for rest in room(n - 1, k + 1)))
                self.assertEqual(put_together(p, n, k, low, high), vector)

    def test_put_together_and_split(self):
        chance = random.Random(83)
        for p in FIELDS:
            for n, k in ROOMS:
                low = some_vector(chance, p, n - 1, k - 1) if k > 0 else ()
                high = some_vector(chance, p, n - 1, k + 1) if k < n else ()
                vector = put_together(p, n, k, low, high)
                self.assertIs(is_vector(p, n, k, vector), True)
                self.assertEqual(split(p, n, k, vector), (low, high))

    def test_rooms_that_are_none(self):
        for p in FIELDS:
            one = number(p, 1)
            self.assertEqual(split(p, 1, 1, (one,)), ((one,), ()))
            self.assertEqual(split(p, 3, 3, (one,)), ((one,), ()))
            self.assertEqual(split(p, 2, 0, (one,)), ((), (one,)))
            self.assertEqual(split(p, 4, 0, (one, one)), ((), (one, one)))
            self.assertEqual(put_together(p, 3, 3, (one,), ()), (one,))
            self.assertEqual(put_together(p, 2, 0, (), (one,)), (one,))

    def test_eight_points(self):
        chance = random.Random(84)
        for p, n, k in ((13, 8, 2), (13, 8, 0), (13, 8, 8), (0, 6, 2)):
            vector = some_vector(chance, p, n, k)
            low, high = split(p, n, k, vector)
            self.assertEqual([len(low), len(high)], [len(room(n - 1, k - 1)), len(room(n - 1, k + 1))])
            self.assertEqual(put_together(p, n, k, low, high), vector)

    def test_what_grown_pictures_make(self):
        chance = random.Random(85)
        for p, d in SOME:
            for n, k in [(n, k) for n, k in ROOMS if n < 6]:
                for picture in pictures(n - 1):
                    vector = some_vector(chance, p, n, k)
                    low, high = split(p, n, k, vector)
                    come = split(p, n, k, acted(p, d, n, k, grown(picture), vector))
                    if k < n:
                        self.assertEqual(come[1], acted(p, d, n - 1, k + 1, picture, high))
                    flat = put_together(p, n, k, low, tuple(number(p, 0) for _ in high))
                    come = split(p, n, k, acted(p, d, n, k, grown(picture), flat))
                    self.assertEqual(set(come[1]) | {number(p, 0)}, {number(p, 0)})
                    if k > 0:
                        self.assertEqual(come[0], acted(p, d, n - 1, k - 1, picture, low))


def pieces_sum(p, d, n, pairs):
    """How often the rooms of the pairs come to each piece."""
    found = {r: 0 for r, _ in sizes(p, d, n)}
    for k, c in pairs:
        for r in pieces_of(p, d, n, k):
            found[r] += c
    return found


class RoomsOf(unittest.TestCase):
    def test_they_come_to_the_piece_alone(self):
        for p, d in WORTHS:
            for n in range(1, 14):
                there = [r for r, _ in sizes(p, d, n)]
                for r in range(n % 2, n + 1, 2):
                    pairs = rooms_of(p, d, n, r)
                    self.assertIs(type(pairs), list)
                    if r not in there:
                        self.assertEqual(pairs, [])
                        continue
                    self.assertEqual(pairs, sorted(pairs))
                    self.assertEqual(pairs[0], (r, 1))
                    self.assertTrue(all(k in there and c != 0 for k, c in pairs))
                    self.assertEqual(len({k for k, c in pairs}), len(pairs))
                    found = pieces_sum(p, d, n, pairs)
                    self.assertEqual(found, {s: int(s == r) for s in there})
                    self.assertEqual(sum(c * count(n, k) for k, c in pairs), size(p, d, n, r))

    def test_by_fractions(self):
        for p, d in SOME:
            l = length(p, d)
            for n in (5, 8, 13, 20):
                there = sorted(r for r, _ in sizes(p, d, n))
                solved = {}
                for r in reversed(there):
                    solved[r] = {s: Fraction(int(s == r)) for s in there}
                    for s in there:
                        if s > r and holds(p, l, r, s):
                            for t in there:
                                solved[r][t] -= solved[s][t]
                for r in there:
                    self.assertEqual(rooms_of(p, d, n, r), [(k, c) for k, c in solved[r].items() if c != 0])

    def test_forty_points(self):
        for p, d in WORTHS:
            for r in range(0, 41, 2):
                pairs = rooms_of(p, d, 40, r)
                self.assertEqual(sum(c * count(40, k) for k, c in pairs), size(p, d, 40, r))

    def test_no_piece(self):
        for p in FIELDS:
            nought = number(p, 0)
            self.assertEqual(rooms_of(p, nought, 2, 0), [])
            self.assertEqual(rooms_of(p, nought, 40, 0), [])
            self.assertEqual(rooms_of(p, nought, 0, 0), [(0, 1)])

    def test_one_point_and_no_length(self):
        for p, d in WORTHS:
            self.assertEqual(rooms_of(p, d, 1, 1), [(1, 1)])
        for r in range(0, 41, 2):
            self.assertEqual(rooms_of(0, (2, 1), 40, r), [(r, 1)])


def times_by_hand(p, d, n, r):
    found = {}
    for k, c in rooms_of(p, d, n, r):
        for below in (k - 1, k + 1):
            if 0 <= below <= n - 1:
                for s in pieces_of(p, d, n - 1, below):
                    found[s] = found.get(s, 0) + c
    return sorted((s, many) for s, many in found.items() if many != 0)


class Times(unittest.TestCase):
    def test_by_the_rooms(self):
        for p, d in WORTHS:
            for n in list(range(1, 10)) + [25]:
                for r in range(n % 2, n + 1, 2):
                    self.assertEqual(times(p, d, n, r), times_by_hand(p, d, n, r))

    def test_sizes_add_up(self):
        for p, d in WORTHS:
            for n in list(range(1, 13)) + [39, 40]:
                for r in range(n % 2, n + 1, 2):
                    told = times(p, d, n, r)
                    self.assertIs(type(told), list)
                    self.assertTrue(all(many > 0 for s, many in told))
                    self.assertEqual(sum(many * size(p, d, n - 1, s) for s, many in told), size(p, d, n, r))

    def test_no_piece(self):
        for p in FIELDS:
            self.assertEqual(times(p, number(p, 0), 2, 0), [])
            self.assertEqual(times(p, number(p, 0), 40, 0), [])

    def test_as_all_are_pieces_below_the_length(self):
        for p, d in WORTHS:
            for n in range(1, min(length(p, d) or 31, 31)):
                for r in range(n % 2, n + 1, 2):
                    expected = [(s, 1) for s in (r - 1, r + 1) if 0 <= s <= n - 1]
                    self.assertEqual(times(p, d, n, r), expected)
                    self.assertIs(falls_apart(p, d, n, r), len(expected) > 1)

    def test_as_traces_tell_it(self):
        """What pictures of n - 1 points make of a piece has the trace of the pieces that stand there."""
        for p, d in ((0, (1, 1)), (0, (0, 1)), (0, (-1, 1)), (0, (3, 1))):
            for n in range(2, 6):
                for r in range(n % 2, n + 1, 2):
                    for i in range(n - 2):
                        whole = piece_trace(p, d, n, r, arc(n, i))
                        parts = [many * piece_trace(p, d, n - 1, s, arc(n - 1, i)) for s, many in times(p, d, n, r)]
                        self.assertEqual(whole, sum(parts))


def piece_trace(p, d, n, r, picture):
    """The sum of the numbers on the diagonal of what a picture makes of what is left of a room."""
    return sum((by_hand.plain(p, row[at]) for at, row in enumerate(left_matrix(p, d, n, r, picture))), Fraction(0))


class TimesDown(unittest.TestCase):
    def test_one_point_after_another(self):
        for p, d in SOME:
            for n in (0, 1, 2, 5, 8, 12):
                for r in range(n % 2, n + 1, 2):
                    expected = {r: 1} if size(p, d, n, r) else {}
                    for m in range(n + 1):
                        self.assertEqual(times_down(p, d, n, r, m), sorted(expected.items()))
                        further = {}
                        if m < n:
                            for s, many in expected.items():
                                for t, often in times(p, d, n - m, s):
                                    further[t] = further.get(t, 0) + many * often
                        expected = further

    def test_all_points_away(self):
        for p, d in WORTHS:
            for r in range(0, 25, 2):
                many = size(p, d, 24, r)
                self.assertEqual(times_down(p, d, 24, r, 24), [(0, many)] if many else [])

    def test_sizes_add_up(self):
        for p, d in SOME:
            for m in range(25):
                told = times_down(p, d, 24, 4, m)
                self.assertEqual(sum(many * size(p, d, 24 - m, s) for s, many in told), size(p, d, 24, 4))

    def test_no_piece(self):
        for p in FIELDS:
            for m in (0, 1, 2):
                self.assertEqual(times_down(p, number(p, 0), 2, 0, m), [])
        self.assertEqual(times_down(3, 0, 0, 0, 0), [(0, 1)])


class FallsApart(unittest.TestCase):
    def test_by_times(self):
        for p, d in WORTHS:
            for n in list(range(1, 13)) + [40]:
                for r, _ in sizes(p, d, n):
                    many = sum(often for s, often in times(p, d, n, r))
                    self.assertIs(falls_apart(p, d, n, r), many > 1)

    def test_one_piece_twice(self):
        found = [
            (p, d, n, r) for p, d in WORTHS for n in range(1, 13) for r, _ in sizes(p, d, n)
            if len(times(p, d, n, r)) == 1 and times(p, d, n, r)[0][1] > 1
        ]
        self.assertTrue(found)
        for p, d, n, r in found:
            self.assertIs(falls_apart(p, d, n, r), True)

    def test_one_point(self):
        for p, d in WORTHS:
            self.assertIs(falls_apart(p, d, 1, 1), False)


class RankOfSplit(unittest.TestCase):
    def test_units_are_split_to_units(self):
        for n, k in ROOMS:
            split_units = [split(5, n, k, unit_of(5, n, k, half)) for half in halves(n, k)]
            self.assertEqual(rank_of(5, [low + high for low, high in split_units]), count(n, k))
