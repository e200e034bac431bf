"""loopworth.acting: points [7.1] to [7.4], to the limits of [7.6]."""

import itertools
import random
import unittest
from fractions import Fraction

from loopworth.acting import (
    acted, brings, closure, is_closed, is_vector, judge_way, matrix_of, meet, under, unit_of, way_to,
)
from loopworth.fields import is_number, number
from loopworth.halves import all_halves, count, half_of, halves, loose
from loopworth.pictures import arc, is_picture, pictures, product, straight, turned
from loopworth.ranks import judge_nought, nought_basis, reduced
from loopworth.rooms import value, values_of
from tests import by_hand
from tests.odd_values import any_values

PRIMES = (2, 3, 5, 7, 11, 13)
FIELDS = (0,) + PRIMES
SOME = [(2, 0), (2, 1), (3, 0), (3, 1), (5, 2), (7, 3), (13, 5), (0, (0, 1)), (0, (1, 1)), (0, (-2, 3))]
ROOMS = [(n, k) for n in range(6) for k in range(n % 2, n + 1, 2)]


def plain_nought(p):
    return Fraction(0) if p == 0 else 0


def some_vector(chance, p, n, k):
    if p == 0:
        found = [Fraction(chance.randrange(-9, 10), chance.randrange(1, 9)) for _ in range(count(n, k))]
        return tuple(by_hand.told(0, x) for x in found)
    return tuple(chance.randrange(p) for _ in range(count(n, k)))


def acted_by_hand(p, d, n, k, picture, vector):
    found = {half: plain_nought(p) for half in halves(n, k)}
    for half, x in zip(halves(n, k), vector):
        loops, come = by_hand.under(picture, half)
        if come in found:
            found[come] += by_hand.plain(p, x) * by_hand.power(p, d, loops)
    return tuple(by_hand.told(p, found[half]) for half in halves(n, k))


def times_number(p, x, vector):
    return tuple(by_hand.told(p, by_hand.plain(p, x) * by_hand.plain(p, y)) for y in vector)


def nought_vector(p, n, k):
    return (number(p, 0),) * count(n, k)


def units(p, n, k):
    return [unit_of(p, n, k, half) for half in halves(n, k)]


def is_nought(p, d, n, k, vector):
    return judge_nought(p, d, n, k, vector) is None


class IsVector(unittest.TestCase):
    def test_any_value(self):
        for p in FIELDS:
            for n, k in ((0, 0), (1, 1), (2, 0), (2, 2), (3, 1), (4, 2)):
                for vector in any_values() + [some_vector(random.Random(1), p, n, k)]:
                    expected = (
                        type(vector) is tuple and len(vector) == count(n, k)
                        and all(is_number(p, x) for x in vector)
                    )
                    self.assertIs(is_vector(p, n, k, vector), expected, repr(vector)[:80])

    def test_right_and_wrong_ones(self):
        self.assertIs(is_vector(5, 4, 2, (0, 4, 1)), True)
        self.assertIs(is_vector(0, 4, 0, ((0, 1), (-1, 2))), True)
        for wrong in ((0, 4), (0, 4, 1, 1), (0, 4, 5), (0, 4, -1), (0, 4, True), [0, 4, 1], ((0, 1), 4, 1), None):
            self.assertIs(is_vector(5, 4, 2, wrong), False)
        for wrong in (((0, 2), (1, 1)), (0, 1), ([0, 1], (1, 1)), ((1, -1), (1, 1)), ((True, 1), (1, 1))):
            self.assertIs(is_vector(0, 4, 0, wrong), False)

    def test_a_room_without_halves(self):
        self.assertIs(is_vector(5, 3, 0, ()), True)
        self.assertIs(is_vector(5, 3, 0, (1,)), False)


class UnitOf(unittest.TestCase):
    def test_one_there_and_nought_elsewhere(self):
        for p in FIELDS:
            for n, k in ROOMS:
                for at, half in enumerate(halves(n, k)):
                    vector = unit_of(p, n, k, half)
                    self.assertIs(is_vector(p, n, k, vector), True)
                    self.assertEqual([x for x in vector if x != number(p, 0)], [number(p, 1)])
                    self.assertEqual(vector[at], number(p, 1))


class Under(unittest.TestCase):
    def test_all_small_ones(self):
        for n in range(6):
            for picture in pictures(n):
                for half in all_halves(n):
                    self.assertEqual(under(picture, half), by_hand.under(picture, half))

    def test_twelve_points(self):
        chance = random.Random(71)
        for n in (8, 11, 12):
            for _ in range(60):
                k, m = [chance.randrange(n % 2, n + 1, 2) for _ in range(2)]
                top, bottom = [half_of(n, k, chance.randrange(count(n, k))) for _ in range(2)]
                half = half_of(n, m, chance.randrange(count(n, m)))
                self.assertEqual(under((top, bottom), half), by_hand.under((top, bottom), half))

    def test_it_is_the_top_of_a_product(self):
        for picture in pictures(4):
            for half in all_halves(4):
                loops, (top, _) = product(picture, (half, half))
                self.assertEqual(under(picture, half), (loops, top))

    def test_fewer_loose_ends(self):
        for n in range(6):
            for picture in pictures(n):
                for half in all_halves(n):
                    _, come = under(picture, half)
                    _, ends = by_hand.glue(picture[1], half)
                    self.assertLessEqual(loose(come), loose(half))
                    self.assertEqual(loose(come) < loose(half), ends < loose(half))

    def test_loops(self):
        self.assertEqual(under(("()()()", "()()()"), "()()()"), (3, "()()()"))
        self.assertEqual(under(("", ""), ""), (0, ""))
        self.assertEqual(under(("|", "|"), "|"), (0, "|"))


class Acted(unittest.TestCase):
    def test_all_pictures_to_four_points(self):
        chance = random.Random(72)
        for p, d in SOME:
            for n in range(5):
                for k in range(n % 2, n + 1, 2):
                    vector = some_vector(chance, p, n, k)
                    for picture in pictures(n):
                        self.assertEqual(
                            acted(p, d, n, k, picture, vector), acted_by_hand(p, d, n, k, picture, vector)
                        )

    def test_each_worth(self):
        chance = random.Random(73)
        for p in FIELDS:
            for d in by_hand.numbers(p):
                for n, k in ((2, 0), (3, 1), (4, 0), (4, 2)):
                    vector = some_vector(chance, p, n, k)
                    for picture in pictures(n):
                        found = acted(p, d, n, k, picture, vector)
                        self.assertEqual(found, acted_by_hand(p, d, n, k, picture, vector))
                        self.assertIs(is_vector(p, n, k, found), True)

    def test_without_loops_a_worth_of_nought_tells_nothing(self):
        self.assertEqual(acted(5, 0, 3, 1, ("|()", "()|"), (3, 1)), (0, 1))
        self.assertEqual(acted(0, (0, 1), 2, 2, straight(2), ((1, 2),)), ((1, 2),))
        self.assertEqual(acted(5, 0, 2, 0, ("()", "()"), (3,)), (0,))

    def test_numbers_at_one_half_are_added(self):
        self.assertEqual(acted(7, 3, 4, 0, ("()()", "()()"), (3, 4)), (0, (3 * 3 + 4 * 9) % 7))

    def test_fewer_loose_ends_make_nothing(self):
        self.assertEqual(acted(5, 3, 2, 2, ("()", "()"), (4,)), (0,))
        self.assertEqual(acted(0, (3, 1), 2, 2, ("()", "()"), ((4, 1),)), ((0, 1),))

    def test_straight_changes_nothing(self):
        chance = random.Random(74)
        for p, d in SOME:
            for n, k in ROOMS + [(8, 2), (8, 0)] * (p > 0):
                vector = some_vector(chance, p, n, k)
                self.assertEqual(acted(p, d, n, k, straight(n), vector), vector)

    def test_one_picture_after_another(self):
        chance = random.Random(75)
        for p, d in SOME:
            for n, k in ((2, 0), (3, 1), (4, 2), (5, 1), (6, 2)):
                some = pictures(n)
                for _ in range(15):
                    one, other = chance.choice(some), chance.choice(some)
                    vector = some_vector(chance, p, n, k)
                    loops, both = product(one, other)
                    power = by_hand.told(p, by_hand.power(p, d, loops))
                    self.assertEqual(
                        acted(p, d, n, k, one, acted(p, d, n, k, other, vector)),
                        times_number(p, power, acted(p, d, n, k, both, vector)),
                    )

    def test_no_points_and_one_point(self):
        for p in FIELDS:
            one = number(p, 1)
            self.assertEqual(acted(p, one, 0, 0, ("", ""), (one,)), (one,))
            self.assertEqual(acted(p, one, 1, 1, ("|", "|"), (one,)), (one,))

    def test_eight_points(self):
        chance = random.Random(76)
        for p, d in ((7, 3), (2, 0), (13, 12)):
            for k in (0, 2, 4, 6, 8):
                top, bottom = [half_of(8, k, chance.randrange(count(8, k))) for _ in range(2)]
                vector = some_vector(chance, p, 8, 2)
                self.assertEqual(
                    acted(p, d, 8, 2, (top, bottom), vector), acted_by_hand(p, d, 8, 2, (top, bottom), vector)
                )


class MatrixOf(unittest.TestCase):
    def test_its_entries_come_of_units(self):
        for p, d in SOME:
            for n, k in ((0, 0), (1, 1), (2, 0), (2, 2), (3, 1), (4, 0), (4, 2)):
                for picture in pictures(n):
                    expected = tuple(acted_by_hand(p, d, n, k, picture, unit) for unit in units(p, n, k))
                    self.assertEqual(matrix_of(p, d, n, k, picture), expected)

    def test_eight_points(self):
        picture = ("()|||()|", "||()()||")
        expected = tuple(acted_by_hand(7, 3, 8, 2, picture, unit) for unit in units(7, 8, 2))
        self.assertEqual(matrix_of(7, 3, 8, 2, picture), expected)


class Meet(unittest.TestCase):
    def test_by_the_double_sum(self):
        chance = random.Random(77)
        for p, d in SOME:
            for n, k in ROOMS:
                one, other = some_vector(chance, p, n, k), some_vector(chance, p, n, k)
                total = plain_nought(p)
                for x, a in zip(halves(n, k), one):
                    for y, b in zip(halves(n, k), other):
                        both = by_hand.plain(p, a) * by_hand.plain(p, b)
                        total += both * by_hand.plain(p, value(p, d, x, y))
                self.assertEqual(meet(p, d, n, k, one, other), by_hand.told(p, total))
                self.assertEqual(meet(p, d, n, k, other, one), by_hand.told(p, total))

    def test_units_meet_by_their_value(self):
        for one, other in itertools.product(halves(4, 2), repeat=2):
            found = meet(7, 3, 4, 2, unit_of(7, 4, 2, one), unit_of(7, 4, 2, other))
            self.assertEqual(found, value(7, 3, one, other))

    def test_turned_pictures(self):
        chance = random.Random(78)
        for p, d in SOME:
            for n, k in ((2, 0), (3, 1), (4, 2), (5, 3), (6, 0)):
                for picture in chance.sample(pictures(n), min(10, len(pictures(n)))):
                    one, other = some_vector(chance, p, n, k), some_vector(chance, p, n, k)
                    self.assertEqual(
                        meet(p, d, n, k, acted(p, d, n, k, picture, one), other),
                        meet(p, d, n, k, one, acted(p, d, n, k, turned(picture), other)),
                    )


def closure_by_hand(p, d, n, k, vectors):
    """All vectors that are made of some and of what all pictures make of them, p a small prime."""
    rows = list(vectors)
    found = by_hand.made(p, rows, count(n, k))
    for row in rows:
        for picture in pictures(n):
            come = acted_by_hand(p, d, n, k, picture, row)
            if come not in found:
                rows.append(come)
                found = by_hand.made(p, rows, count(n, k))
    return found


class Closure(unittest.TestCase):
    def test_against_all_vectors(self):
        for p, d in ((2, 0), (2, 1), (3, 0), (3, 1), (3, 2)):
            for n, k in ((0, 0), (1, 1), (2, 0), (2, 2), (3, 1), (4, 0), (4, 2)):
                for vector in itertools.product(range(p), repeat=count(n, k)):
                    rows = closure(p, d, n, k, [vector])
                    self.assertEqual(by_hand.made(p, rows, count(n, k)), closure_by_hand(p, d, n, k, [vector]))
                    self.assertEqual(reduced(p, rows), rows)

    def test_all_pictures_keep_it(self):
        chance = random.Random(79)
        for p, d in SOME:
            for n, k in ((3, 1), (4, 0), (4, 2), (5, 1), (5, 3)):
                for many in (1, 2):
                    vectors = [some_vector(chance, p, n, k) for _ in range(many)]
                    basis = nought_basis(p, d, n, k)
                    for some in (vectors, basis[:many]):
                        rows = closure(p, d, n, k, some)
                        come = [acted(p, d, n, k, picture, row) for picture in pictures(n) for row in rows]
                        self.assertEqual(reduced(p, rows + come), rows)
                        self.assertEqual(reduced(p, rows + list(some)), rows)

    def test_nothing_more_than_what_comes(self):
        chance = random.Random(80)
        for p, d in SOME:
            for n, k in ((4, 0), (4, 2), (5, 1), (6, 0)):
                for vectors in ([some_vector(chance, p, n, k)], nought_basis(p, d, n, k)[:1]):
                    come = [acted(p, d, n, k, picture, row) for picture in pictures(n) for row in vectors]
                    self.assertEqual(closure(p, d, n, k, vectors), reduced(p, list(vectors) + come))

    def test_no_vectors_and_noughts(self):
        for p, d in SOME:
            for n, k in ROOMS:
                self.assertEqual(closure(p, d, n, k, []), [])
                self.assertEqual(closure(p, d, n, k, ()), [])
                self.assertEqual(closure(p, d, n, k, [nought_vector(p, n, k)] * 2), [])

    def test_a_room_without_halves(self):
        self.assertEqual(closure(5, 2, 3, 0, [()]), [])
        self.assertIs(is_closed(5, 2, 3, 0, [()]), True)

    def test_whole_rooms(self):
        chance = random.Random(81)
        for p in FIELDS:
            for d in by_hand.numbers(p)[:6]:
                for n, k in ROOMS:
                    vector = some_vector(chance, p, n, k)
                    if not is_nought(p, d, n, k, vector):
                        self.assertEqual(closure(p, d, n, k, [vector]), units(p, n, k))

    def test_nought_rows_make_nought_rows_alone(self):
        for p in FIELDS:
            for d in by_hand.numbers(p)[:6]:
                for n, k in ROOMS + [(6, 0), (6, 2)]:
                    basis = nought_basis(p, d, n, k)
                    self.assertEqual(closure(p, d, n, k, basis), basis)
                    for row in basis:
                        for come in closure(p, d, n, k, [row]):
                            self.assertTrue(is_nought(p, d, n, k, come))

    def test_where_all_are_nought_rows(self):
        self.assertEqual(closure(3, 0, 2, 0, [(1,)]), [(1,)])
        self.assertEqual(closure(3, 0, 4, 0, [(1, 0)]), [(1, 0), (0, 1)])
        self.assertEqual(closure(0, (0, 1), 4, 0, [((0, 1), (5, 1))]), [((1, 1), (0, 1)), ((0, 1), (1, 1))])

    def test_forty_vectors(self):
        chance = random.Random(82)
        for p, d, n, k in ((7, 3, 8, 2), (2, 1, 8, 2), (13, 0, 8, 4), (0, (1, 1), 6, 2), (0, (999999, 100003), 6, 2)):
            vectors = [some_vector(chance, p, n, k) for _ in range(40)]
            self.assertEqual(closure(p, d, n, k, vectors), units(p, n, k))
            basis = nought_basis(p, d, n, k)
            self.assertEqual(closure(p, d, n, k, (basis * 40)[:40]), basis)


class RoomsWithoutHalves(unittest.TestCase):
    def test_nothing_comes(self):
        for p, d in SOME:
            self.assertEqual(acted(p, d, 3, 0, straight(3), ()), ())
            self.assertEqual(matrix_of(p, d, 3, 0, straight(3)), ())
            self.assertEqual(meet(p, d, 3, 0, (), ()), number(p, 0))
            self.assertEqual(brings(p, d, 3, 0, ()), ())


class IsClosed(unittest.TestCase):
    def test_closures_are(self):
        chance = random.Random(83)
        for p, d in SOME:
            for n, k in ROOMS:
                vectors = [some_vector(chance, p, n, k)]
                self.assertIs(is_closed(p, d, n, k, closure(p, d, n, k, vectors)), True)
                self.assertIs(is_closed(p, d, n, k, []), True)
                self.assertIs(is_closed(p, d, n, k, ()), True)
                self.assertIs(is_closed(p, d, n, k, [nought_vector(p, n, k)]), True)

    def test_by_all_pictures(self):
        for p, d in ((2, 0), (2, 1), (3, 1)):
            for n, k in ((2, 0), (3, 1), (4, 0), (4, 2)):
                for vector in itertools.product(range(p), repeat=count(n, k)):
                    made = by_hand.made(p, [vector], count(n, k))
                    come = [acted_by_hand(p, d, n, k, picture, vector) for picture in pictures(n)]
                    self.assertIs(is_closed(p, d, n, k, [vector]), all(row in made for row in come))

    def test_multiples_tell_nothing(self):
        self.assertIs(is_closed(3, 1, 4, 0, [(1, 2), (2, 1)]), True)
        self.assertIs(is_closed(3, 1, 4, 0, [(1, 0), (0, 1)]), True)
        self.assertIs(is_closed(3, 1, 4, 0, [(1, 0), (2, 0)]), False)
        self.assertIs(is_closed(0, (1, 1), 4, 0, [((5, 1), (-5, 1))]), True)


class Brings(unittest.TestCase):
    def test_by_values(self):
        chance = random.Random(84)
        for p, d in SOME:
            for n, k in ROOMS:
                vectors = [some_vector(chance, p, n, k), nought_vector(p, n, k)] + nought_basis(p, d, n, k)
                for vector in vectors + units(p, n, k):
                    found = [
                        (half, x) for half, x in zip(halves(n, k), values_of(p, d, n, k, vector)) if x != number(p, 0)
                    ]
                    self.assertEqual(brings(p, d, n, k, vector), found[0] if found else ())
                    self.assertEqual(brings(p, d, n, k, vector) == (), is_nought(p, d, n, k, vector))

    def test_the_picture_that_it_tells(self):
        chance = random.Random(85)
        for p, d in SOME:
            for n, k in ((2, 2), (3, 1), (4, 2), (5, 1)):
                vector = some_vector(chance, p, n, k)
                told = brings(p, d, n, k, vector)
                if told:
                    for half in halves(n, k):
                        come = acted(p, d, n, k, (half, told[0]), vector)
                        self.assertEqual(come, times_number(p, told[1], unit_of(p, n, k, half)))


class WayTo(unittest.TestCase):
    def test_it_leads_there(self):
        chance = random.Random(86)
        for p in FIELDS:
            for d in by_hand.numbers(p)[:6]:
                for n, k in ROOMS:
                    vector = some_vector(chance, p, n, k)
                    for half in halves(n, k):
                        way = way_to(p, d, n, k, vector, half)
                        self.assertEqual(way is None, is_nought(p, d, n, k, vector))
                        self.assertIsNone(judge_way(p, d, n, k, vector, half, way))
                        if way is not None:
                            picture, x = way
                            self.assertTrue(type(way) is tuple and is_picture(picture) and is_number(p, x))
                            come = acted_by_hand(p, d, n, k, picture, vector)
                            self.assertEqual(times_number(p, x, come), unit_of(p, n, k, half))

    def test_nought_rows(self):
        for p, d in SOME:
            for n, k in ROOMS:
                for row in nought_basis(p, d, n, k) + [nought_vector(p, n, k)]:
                    for half in halves(n, k):
                        self.assertIsNone(way_to(p, d, n, k, row, half))
                        self.assertIsNone(judge_way(p, d, n, k, row, half, None))

    def test_eight_points(self):
        chance = random.Random(87)
        for p, d, n, k in ((7, 3, 8, 2), (2, 1, 8, 4), (0, (999999, 7), 6, 2)):
            vector = some_vector(chance, p, n, k)
            for half in halves(n, k):
                self.assertIsNone(judge_way(p, d, n, k, vector, half, way_to(p, d, n, k, vector, half)))


class JudgeWay(unittest.TestCase):
    def fault_by_hand(self, p, d, n, k, vector, half, way):
        if way is None:
            found = brings(p, d, n, k, vector)
            return ("there",) + found if found else None
        form = (
            type(way) is tuple and len(way) == 2 and is_picture(way[0]) and len(way[0][0]) == n
            and is_number(p, way[1])
        )
        if not form:
            return ("form",)
        told = times_number(p, way[1], acted_by_hand(p, d, n, k, way[0], vector))
        return None if told == unit_of(p, n, k, half) else ("comes", told)

    def test_all_pictures_and_numbers(self):
        chance = random.Random(88)
        right = 0
        for p, d in SOME:
            for n, k in ((0, 0), (1, 1), (2, 0), (3, 1), (4, 0), (4, 2)):
                vectors = [some_vector(chance, p, n, k)] + nought_basis(p, d, n, k)[:1]
                for vector in vectors:
                    for picture in pictures(n):
                        for x in by_hand.numbers(p)[:4]:
                            half = chance.choice(halves(n, k))
                            fault = judge_way(p, d, n, k, vector, half, (picture, x))
                            self.assertEqual(fault, self.fault_by_hand(p, d, n, k, vector, half, (picture, x)))
                            right += fault is None
        self.assertGreater(right, 20)

    def test_any_value(self):
        pairs = [(("()", "()"), 1), (("||", "||"), (1, 2)), (("|", "|"), 1), [("()", "()"), 1], (("()", "()"), True)]
        pairs += [(("()", "()"), 5), (("()", "()"), (2, 4)), (("()", "()"), 1, 1), (["()", "()"], 1)]
        for p, d in ((5, 2), (0, (1, 2)), (2, 0)):
            for n, k in ((2, 0), (2, 2), (4, 0)):
                for vector in (unit_of(p, n, k, halves(n, k)[0]), nought_vector(p, n, k)):
                    for way in any_values() + pairs:
                        half = halves(n, k)[-1]
                        expected = self.fault_by_hand(p, d, n, k, vector, half, way)
                        self.assertEqual(judge_way(p, d, n, k, vector, half, way), expected, repr(way)[:80])

    def test_none_where_there_is_a_way(self):
        self.assertEqual(judge_way(7, 3, 4, 2, (0, 0, 1), "()||", None), ("there", "|()|", 1))
        self.assertEqual(judge_way(0, (1, 2), 2, 0, ((4, 1),), "()", None), ("there", "()", (2, 1)))

    def test_where_all_are_nought_rows(self):
        self.assertIsNone(way_to(3, 0, 2, 0, (2,), "()"))
        self.assertIsNone(judge_way(3, 0, 2, 0, (2,), "()", None))
        self.assertIsNone(judge_way(3, 0, 2, 0, (2,), "()", (straight(2), 2)))
        self.assertEqual(judge_way(3, 0, 2, 0, (2,), "()", (straight(2), 1)), ("comes", (2,)))
        self.assertIsNone(judge_way(0, (0, 1), 4, 0, ((1, 2), (0, 1)), "(())", (straight(4), (2, 1))))

    def test_a_nought_row_and_a_pair(self):
        self.assertEqual(judge_way(2, 1, 4, 0, (1, 1), "()()", (straight(4), 1)), ("comes", (1, 1)))
        self.assertEqual(judge_way(2, 1, 4, 0, (0, 0), "()()", (straight(4), 1)), ("comes", (0, 0)))

    def test_other_ways_are_right_too(self):
        self.assertIsNone(judge_way(7, 3, 4, 2, (0, 1, 0), "()||", (arc(4, 0), 1)))
        self.assertIsNone(judge_way(7, 3, 4, 2, (0, 1, 0), "|()|", (straight(4), 1)))
