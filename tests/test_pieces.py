"""loopworth.pieces: points [5.4] and [5.5], to the limits of [5.6]."""

import unittest

from loopworth.halves import count
from loopworth.pieces import all_kept, keeps_all, lost, pieces_of, shares_of, size, sizes
from loopworth.ranks import rank_of
from loopworth.rooms import table
from loopworth.worths import length
from tests import by_hand

PRIMES = (2, 3, 5, 7, 11, 13)
FRACTIONS = [(0, 1), (1, 1), (-1, 1), (2, 1), (1, 2), (-999999999999, 7)]
WORTHS = [(p, d) for p in PRIMES for d in range(p)] + [(0, d) for d in FRACTIONS]
BIG = 10 ** 30


def room_numbers(n):
    return range(n % 2, n + 1, 2)


def sizes_by_hand(p, d, n):
    """The sizes from r = n down, by the supports alone."""
    l = length(p, d)
    found = {}
    for r in reversed(room_numbers(n)):
        found[r] = count(n, r) - sum(found[s] for s in found if r + 1 in by_hand.support(p, l, s + 1))
    return found


class Sizes(unittest.TestCase):
    def test_against_the_supports(self):
        for p, d in WORTHS:
            for n in range(16):
                found = sizes_by_hand(p, d, n)
                self.assertEqual(sizes(p, d, n), [(r, many) for r, many in found.items() if many])
                for r in range(n + 4):
                    self.assertEqual(size(p, d, n, r), found.get(r, 0))

    def test_they_are_the_ranks_of_the_tables(self):
        for p, d in WORTHS:
            for n in range(8 if p else 7):
                for k in room_numbers(n):
                    self.assertEqual(size(p, d, n, k), rank_of(p, table(p, d, n, k)))

    def test_no_size_is_below_nought_and_just_one_is_nought(self):
        for p, d in WORTHS:
            for n in list(range(25)) + [59, 60]:
                pieces = [r for r, many in sizes(p, d, n) if many > 0]
                none = n % 2 == 0 and n >= 2 and d in (0, (0, 1))
                self.assertEqual(pieces[::-1], list(room_numbers(n))[int(none):])
                self.assertEqual(len(sizes(p, d, n)), len(pieces))
                self.assertEqual(size(p, d, n, 0) == 0, none or n % 2 == 1)

    def test_without_a_length_all_is_one_piece(self):
        for n in range(61):
            self.assertEqual(sizes(0, (2, 1), n), [(r, count(n, r)) for r in reversed(room_numbers(n))])

    def test_the_edges(self):
        for p, d in WORTHS:
            self.assertEqual([sizes(p, d, 0), sizes(p, d, 1)], [[(0, 1)], [(1, 1)]])
            self.assertEqual([size(p, d, 0, 0), size(p, d, 0, 1), size(p, d, 0, 2), size(p, d, 1, 0)], [1, 0, 0, 0])
            self.assertEqual([size(p, d, 60, 60), size(p, d, 60, 61), size(p, d, 60, 62), size(p, d, 60, 59)], [1, 0, 0, 0])

    def test_the_list_is_the_callers_own(self):
        answer = sizes(2, 1, 4)
        self.assertIs(type(answer), list)
        answer.clear()
        self.assertEqual(sizes(2, 1, 4), [(4, 1), (2, 3), (0, 1)])


class PiecesOf(unittest.TestCase):
    def test_against_the_supports(self):
        for p, d in WORTHS:
            l = length(p, d)
            for n in range(14):
                found = sizes_by_hand(p, d, n)
                for k in room_numbers(n):
                    expected = [r for r in sorted(found) if found[r] and k + 1 in by_hand.support(p, l, r + 1)]
                    self.assertEqual(pieces_of(p, d, n, k), tuple(expected))

    def test_their_sizes_add_up_to_the_room(self):
        for p, d in WORTHS:
            for n in (0, 1, 2, 9, 16, 31, 60):
                told = dict(sizes(p, d, n))
                for k in room_numbers(n):
                    pieces = pieces_of(p, d, n, k)
                    self.assertIs(type(pieces), tuple)
                    self.assertEqual(sum(told[r] for r in pieces), count(n, k))

    def test_the_edges(self):
        for p, d in WORTHS:
            self.assertEqual([pieces_of(p, d, 0, 0), pieces_of(p, d, 1, 1), pieces_of(p, d, 60, 60)], [(0,), (1,), (60,)])
        self.assertEqual([pieces_of(2, 0, 4, 0), pieces_of(2, 0, 4, 2), pieces_of(0, (0, 1), 4, 0)], [(2,), (2, 4), (2,)])


class Kept(unittest.TestCase):
    def test_keeps_all_by_sizes(self):
        for p, d in WORTHS:
            for n in list(range(20)) + [60]:
                for k in room_numbers(n):
                    self.assertIs(keeps_all(p, d, n, k), size(p, d, n, k) == count(n, k), (p, d, n, k))

    def test_keeps_all_by_ranks(self):
        for p, d in WORTHS:
            for n in range(7):
                for k in room_numbers(n):
                    self.assertIs(keeps_all(p, d, n, k), rank_of(p, table(p, d, n, k)) == count(n, k))

    def test_great_numbers(self):
        for p, d in WORTHS:
            self.assertIs(keeps_all(p, d, BIG, BIG), True)
            self.assertIs(keeps_all(p, d, BIG - 1, BIG - 1), True)
            self.assertIs(keeps_all(p, d, BIG, 0), length(p, d) is None)
        self.assertIs(keeps_all(0, (1, 1), BIG, 2), True)
        self.assertIs(keeps_all(0, (1, 1), BIG, 4), False)
        k = 3 * 2 ** 97 - 1
        self.assertEqual([keeps_all(2, 1, 3 * k + 1, k), keeps_all(2, 1, 3 * k + 2, k)], [True, False])

    def test_lost(self):
        for p, d in WORTHS:
            for n in list(range(12)) + [59, 60]:
                told = dict(sizes(p, d, n))
                expected = tuple(k for k in room_numbers(n) if told.get(k, 0) < count(n, k))
                self.assertEqual(lost(p, d, n), expected)
                self.assertIs(all_kept(p, d, n), expected == ())

    def test_all_is_kept_below_the_length_and_not_at_it(self):
        for p, d in WORTHS:
            l = length(p, d)
            for n in range(l or 20):
                self.assertIs(all_kept(p, d, n), True)
            if l is not None:
                self.assertEqual([lost(p, d, l), all_kept(p, d, l)], [(l - 2,), False])

    def test_the_edges(self):
        for p, d in WORTHS:
            self.assertEqual([lost(p, d, 0), lost(p, d, 1), all_kept(p, d, 0), all_kept(p, d, 1)], [(), (), True, True])
            self.assertIs(keeps_all(p, d, 0, 0), True)


class SharesOf(unittest.TestCase):
    def test_the_rooms_that_have_the_piece(self):
        for p, d in WORTHS:
            for n in range(12):
                for r in range(n + 3):
                    expected = tuple(k for k in room_numbers(n) if r in pieces_of(p, d, n, k))
                    self.assertEqual(shares_of(p, d, n, r), expected)

    def test_sixty_points(self):
        for p, d in ((2, 1), (3, 0), (13, 5), (0, (1, 1)), (0, (2, 1))):
            rooms = {k: pieces_of(p, d, 60, k) for k in room_numbers(60)}
            for r in room_numbers(60):
                self.assertEqual(shares_of(p, d, 60, r), tuple(k for k in rooms if r in rooms[k]))

    def test_no_piece(self):
        for p, d in WORTHS:
            self.assertEqual([shares_of(p, d, 4, 1), shares_of(p, d, 4, 6), shares_of(p, d, 0, 2)], [(), (), ()])
        for p in PRIMES:
            self.assertEqual([shares_of(p, 0, 2, 0), shares_of(p, 0, 0, 0)], [(), (0,)])
