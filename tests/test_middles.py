"""loopworth.middles: points [6.3] to [6.5], to the limits of [6.6]."""

import itertools
import random
import unittest

from loopworth.digits import digits
from loopworth.elements import added, element, is_element, product_of, scaled, share, turned_element
from loopworth.errors import HasMiddle, NoMiddle
from loopworth.fields import is_number, number, plus
from loopworth.halves import count, halves
from loopworth.middles import bar, has_middle, judge_bar, judge_middle, middle
from loopworth.pictures import arc, pictures, straight
from loopworth.ranks import rank_of
from loopworth.worths import length, worth_row
from tests import by_hand
from tests.odd_values import any_values

PRIMES = (2, 3, 5, 7, 11, 13)
FRACTIONS = [(0, 1), (1, 1), (-1, 1), (2, 1), (-1, 2), (999999999999, 999999999998)]
WORTHS = [(p, d) for p in PRIMES for d in range(p)] + [(0, d) for d in FRACTIONS]
BIG = 10 ** 30


def single(p, n, i):
    return ((arc(n, i), number(p, 1)),)


def is_middle_by_hand(p, d, n, value):
    """Whether an element is a middle, by products of its pictures with the arcs."""
    if dict(value).get(straight(n)) != number(p, 1):
        return False
    for i in range(n - 1):
        above, below = {}, {}
        for picture, x in value:
            for found, (one, other) in ((above, (arc(n, i), picture)), (below, (picture, arc(n, i)))):
                loops, reached = by_hand.product(one, other)
                found[reached] = found.get(reached, 0) + by_hand.plain(p, x) * by_hand.power(p, d, loops)
        for total in list(above.values()) + list(below.values()):
            if by_hand.told(p, total) != number(p, 0):
                return False
    return True


def arc_sums(p, d, n, k, row, i):
    """What the arc i brings to each half with k loose ends."""
    room = halves(n, k)
    found = {half: 0 for half in room}
    for half, x in zip(room, row):
        loops, (top, _) = by_hand.product(arc(n, i), (half, half))
        if top in found:
            found[top] += by_hand.plain(p, x) * by_hand.power(p, d, loops)
    return [by_hand.told(p, found[half]) if found[half] != 0 else number(p, 0) for half in room]


def bars_by_hand(p, d, n, k):
    """All bars of a room, p a small prime."""
    found = []
    for row in itertools.product(range(p), repeat=count(n, k)):
        if any(row) and not any(any(arc_sums(p, d, n, k, row, i)) for i in range(n - 1)):
            found.append(row)
    return found


class HasMiddleOrNot(unittest.TestCase):
    def test_by_the_digits(self):
        for p, d in WORTHS:
            for n in list(range(1, 60)) + [BIG - 1, BIG]:
                some = [digit for digit in digits(p, length(p, d), n + 1) if digit]
                self.assertIs(has_middle(p, d, n), len(some) == 1)

    def test_there_is_one_or_none(self):
        for p, d in ((2, 0), (2, 1), (3, 0), (3, 1), (3, 2)):
            for n in (1, 2, 3):
                some = pictures(n)
                middles = []
                for numbers in itertools.product(range(p), repeat=len(some) - 1):
                    value = tuple((picture, x) for picture, x in zip(some, numbers + (1,)) if x)
                    if is_middle_by_hand(p, d, n, value):
                        middles.append(value)
                self.assertEqual(len(middles), int(has_middle(p, d, n)))
                if middles:
                    self.assertEqual(middle(p, d, n), middles[0])

    def test_great_numbers(self):
        for p, d in WORTHS:
            l = length(p, d)
            if l is None:
                self.assertIs(has_middle(p, d, BIG), True)
                continue
            self.assertIs(has_middle(p, d, l * 10 ** 27), False)
            if p == 0:
                self.assertIs(has_middle(p, d, l * 10 ** 27 - 1), True)
            else:
                self.assertIs(has_middle(p, d, l * p ** 25 - 1), True)
                self.assertIs(has_middle(p, d, l * p ** 25 * (p - 1) - 1), True)
                self.assertIs(has_middle(p, d, l * p ** 25), False)
                self.assertIs(has_middle(p, d, l * p ** 25 * (p + 1) - 1), False)

    def test_below_and_at_the_length(self):
        for p, d in WORTHS:
            self.assertIs(has_middle(p, d, 1), True)
            l = length(p, d) or 20
            for n in range(1, l):
                self.assertIs(has_middle(p, d, n), True)
            if length(p, d) is not None:
                self.assertIs(has_middle(p, d, l), False)


class Middle(unittest.TestCase):
    def test_it_is_one(self):
        for p, d in WORTHS:
            for n in range(1, 5):
                if has_middle(p, d, n):
                    value = middle(p, d, n)
                    self.assertIs(is_element(p, n, value), True)
                    self.assertTrue(is_middle_by_hand(p, d, n, value))

    def test_five_points(self):
        for p, d in WORTHS:
            if has_middle(p, d, 5):
                value = middle(p, d, 5)
                self.assertIs(is_element(p, 5, value), True)
                self.assertIsNone(judge_middle(p, d, 5, value))
                self.assertEqual(turned_element(value), value)

    def test_where_one_point_less_has_none(self):
        self.assertEqual([has_middle(2, 1, n) for n in (3, 4, 5)], [False, False, True])
        self.assertTrue(is_middle_by_hand(2, 1, 5, middle(2, 1, 5)))
        self.assertEqual([has_middle(3, 0, n) for n in (4, 5)], [False, True])
        self.assertTrue(is_middle_by_hand(3, 0, 5, middle(3, 0, 5)))
        self.assertTrue(is_middle_by_hand(0, (0, 1), 5, middle(0, (0, 1), 5)))

    def test_by_the_known_step(self):
        for d in ((2, 1), (-1, 2), (3, 1)):
            row = worth_row(0, d, 5)
            before = ((("|", "|"), (1, 1)),)
            for n in range(2, 6):
                grown = tuple(((top + "|", bottom + "|"), x) for (top, bottom), x in before)
                led = product_of(0, d, product_of(0, d, grown, single(0, n, n - 2)), grown)
                (u, e), (v, f) = row[n - 2], row[n - 1]
                factor = by_hand.told(0, -by_hand.Fraction(u, e) / by_hand.Fraction(v, f))
                before = added(0, grown, scaled(0, led, factor))
                self.assertEqual(middle(0, d, n), before)

    def test_what_it_gives_with_others(self):
        chance = random.Random(63)
        for p, d in ((2, 1), (3, 1), (5, 2), (7, 0), (0, (2, 1)), (0, (-1, 1))):
            for n in range(1, 6):
                if has_middle(p, d, n):
                    value = middle(p, d, n)
                    self.assertEqual(product_of(p, d, value, value), value)
                    some = chance.sample(pictures(n), min(5, len(pictures(n))))
                    other = element(p, [(picture, number(p, chance.randrange(9))) for picture in some + [straight(n)]])
                    expected = scaled(p, value, share(p, other, straight(n)))
                    self.assertEqual(product_of(p, d, value, other), expected)
                    self.assertEqual(product_of(p, d, other, value), expected)

    def test_one_point(self):
        for p, d in WORTHS:
            self.assertEqual(middle(p, d, 1), ((("|", "|"), number(p, 1)),))

    def test_no_middle(self):
        for p, d in WORTHS:
            for n in range(1, 6):
                if not has_middle(p, d, n):
                    with self.assertRaises(NoMiddle) as caught:
                        middle(p, d, n)
                    told = by_hand.support(p, length(p, d), n + 1)
                    self.assertEqual(caught.exception.number, max(x - 1 for x in told if x <= n))


class Bar(unittest.TestCase):
    def test_against_all_rows(self):
        for p, d, limit in ((2, 0, 6), (2, 1, 6), (3, 0, 5), (3, 1, 5), (3, 2, 5), (5, 0, 4), (5, 1, 4), (5, 2, 4)):
            for n in range(1, limit + 1):
                found = {k: bars_by_hand(p, d, n, k) for k in range(n % 2, n - 1, 2)}
                some = [k for k in found if found[k]]
                self.assertEqual(some == [], has_middle(p, d, n))
                if some:
                    first = [row for row in found[max(some)] if [x for x in row if x][0] == 1]
                    self.assertEqual([bar(p, d, n)], [(max(some), row) for row in first])

    def test_it_is_one(self):
        for p, d in WORTHS:
            for n in range(1, 8 if p else 7):
                if not has_middle(p, d, n):
                    k, row = bar(p, d, n)
                    self.assertIs(type(row), tuple)
                    self.assertEqual(len(row), count(n, k))
                    self.assertTrue(all(is_number(p, x) for x in row))
                    self.assertEqual([x for x in row if x != number(p, 0)][0], number(p, 1))
                    for i in range(n - 1):
                        self.assertEqual(set(arc_sums(p, d, n, k, row, i)), {number(p, 0)})
                    told = by_hand.support(p, length(p, d), n + 1)
                    self.assertEqual(k, told[-2] - 1)

    def test_none_above_it_and_just_one_there(self):
        for p, d in WORTHS:
            for n in range(1, 7):
                least = n if has_middle(p, d, n) else bar(p, d, n)[0]
                for k in range(n - 2, -1, -2):
                    many = count(n, k)
                    units = [tuple(number(p, int(i == j)) for j in range(many)) for i in range(many)]
                    led = [sum([arc_sums(p, d, n, k, unit, i) for i in range(n - 1)], []) for unit in units]
                    free = many - rank_of(p, [tuple(row) for row in led])
                    if has_middle(p, d, n) or k > least:
                        self.assertEqual(free, 0, (p, d, n, k))
                    if not has_middle(p, d, n) and k == least:
                        self.assertEqual(free, 1, (p, d, n, k))

    def test_where_there_is_a_middle(self):
        for p, d in WORTHS:
            for n in list(range(1, 8)):
                if has_middle(p, d, n):
                    with self.assertRaises(HasMiddle):
                        bar(p, d, n)

    def test_seven_points(self):
        self.assertEqual(bar(2, 0, 2), (0, (1,)))
        self.assertEqual([judge_bar(13, d, 7, bar(13, d, 7)) for d in range(13) if not has_middle(13, d, 7)],
                         [None for d in range(13) if not has_middle(13, d, 7)])


class JudgeMiddle(unittest.TestCase):
    def fault_by_hand(self, p, d, n, value):
        x = share(p, value, straight(n))
        if x != number(p, 1):
            return ("straight", x)
        for i in range(n - 1):
            if product_of(p, d, single(p, n, i), value) != ():
                return ("arc", i, "above")
            if product_of(p, d, value, single(p, n, i)) != ():
                return ("arc", i, "below")
        return None

    def test_all_small_ones(self):
        for p, d in ((2, 0), (2, 1), (3, 1)):
            for n in (1, 2, 3):
                some = pictures(n)
                for numbers in itertools.product(range(p), repeat=len(some)):
                    value = tuple((picture, x) for picture, x in zip(some, numbers) if x)
                    fault = judge_middle(p, d, n, value)
                    self.assertEqual(fault, self.fault_by_hand(p, d, n, value))
                    self.assertEqual(fault is None, is_middle_by_hand(p, d, n, value))

    def test_changed_middles(self):
        chance = random.Random(65)
        for p, d in ((2, 1), (5, 3), (7, 0), (13, 6), (0, (2, 1)), (0, (-1, 2))):
            for n in range(1, 6):
                if has_middle(p, d, n):
                    value = middle(p, d, n)
                    self.assertIsNone(judge_middle(p, d, n, value))
                    for _ in range(8):
                        picture = chance.choice(pictures(n))
                        changed = added(p, value, ((picture, number(p, 1)),))
                        fault = judge_middle(p, d, n, changed)
                        self.assertIsNotNone(fault)
                        self.assertEqual(fault, self.fault_by_hand(p, d, n, changed))

    def test_above_and_below(self):
        value = element(0, [(straight(2), (1, 1))])
        self.assertEqual(judge_middle(0, (2, 1), 2, value), ("arc", 0, "above"))
        self.assertEqual(judge_middle(2, 0, 2, element(2, [(straight(2), 1)])), ("arc", 0, "above"))

    def test_below_alone_and_later_arcs(self):
        seen = set()
        for p, d, n in ((2, 0, 3), (2, 1, 3), (3, 0, 3), (3, 2, 3)):
            some = pictures(n)
            for numbers in itertools.product(range(p), repeat=len(some) - 1):
                value = tuple((picture, x) for picture, x in zip(some, numbers + (1,)) if x)
                seen.add(judge_middle(p, d, n, value))
        self.assertTrue({("arc", 0, "above"), ("arc", 0, "below"), ("arc", 1, "above"), None} <= seen, seen)

    def test_any_value(self):
        for p, d in ((0, (1, 1)), (2, 1), (5, 1)):
            for n in (1, 2, 3):
                for value in any_values():
                    fault = judge_middle(p, d, n, value)
                    if is_element(p, n, value):
                        self.assertEqual(fault, self.fault_by_hand(p, d, n, value))
                    else:
                        self.assertEqual(fault, ("form",), repr(value)[:80])

    def test_form_and_straight(self):
        self.assertEqual(judge_middle(5, 1, 2, [((("||", "||")), 1)]), ("form",))
        self.assertEqual(judge_middle(5, 1, 2, ((("|", "|"), 1),)), ("form",))
        self.assertEqual([judge_middle(5, 1, 3, ()), judge_middle(0, (1, 1), 3, ())], [("straight", 0), ("straight", (0, 1))])
        self.assertEqual(judge_middle(5, 1, 2, ((("||", "||"), 2),)), ("straight", 2))


class JudgeBar(unittest.TestCase):
    def test_all_small_rows(self):
        for p, d, limit in ((2, 0, 5), (2, 1, 5), (3, 0, 4), (3, 1, 4)):
            for n in range(1, limit + 1):
                for k in range(n % 2, n - 1, 2):
                    for row in itertools.product(range(p), repeat=count(n, k)):
                        wrong = [i for i in range(n - 1) if any(arc_sums(p, d, n, k, row, i))]
                        expected = ("nought",) if not any(row) else ("arc", wrong[0]) if wrong else None
                        self.assertEqual(judge_bar(p, d, n, (k, row)), expected)

    def test_whatever_the_k_and_the_first_number(self):
        self.assertIsNone(judge_bar(0, (1, 1), 3, (1, ((-2, 3), (2, 3)))))
        self.assertIsNone(judge_bar(7, 0, 2, (0, (4,))))
        others = 0
        for p, d in WORTHS:
            for n in range(2, 7):
                if not has_middle(p, d, n):
                    k, row = bar(p, d, n)
                    twice = tuple(plus(p, x, x) for x in row)
                    self.assertEqual(judge_bar(p, d, n, (k, twice)), ("nought",) if p == 2 else None)
                    others += 1
        self.assertGreater(others, 50)
        self.assertEqual(bar(2, 0, 6)[0], 4)
        below = bars_by_hand(2, 0, 6, 0)
        self.assertEqual([len(below), [judge_bar(2, 0, 6, (0, row)) for row in below]], [1, [None]])

    def test_any_value(self):
        for p, d in ((0, (1, 1)), (2, 0), (2, 1), (7, 1)):
            for n in (1, 2, 3, 4):
                for value in any_values():
                    form = (
                        type(value) is tuple and len(value) == 2 and type(value[0]) is int and 0 <= value[0] <= n - 2
                        and (n - value[0]) % 2 == 0 and type(value[1]) is tuple
                        and len(value[1]) == count(n, value[0]) and all(is_number(p, x) for x in value[1])
                    )
                    fault = judge_bar(p, d, n, value)
                    self.assertEqual(fault == ("form",), not form, repr(value)[:80])

    def test_form(self):
        for value in ((2, (1,)), (4, (1, 1)), (1, (1,)), (-2, ()), (0, (1,)), (0, (1, 1, 1)), (0, [1, 1]), [0, (1, 1)],
                      (False, (1, 1)), (0, (1, True)), (0, (1, 2)), (0, (1, 1), 0), (0,), None, "0", 0, {0: (1, 1)}):
            self.assertEqual(judge_bar(2, 1, 4, value), ("form",), value)
        for value in any_values():
            self.assertEqual(judge_bar(5, 1, 1, value), ("form",))

    def test_nought_comes_ahead_of_arcs(self):
        self.assertEqual(judge_bar(0, (2, 1), 4, (2, ((0, 1),) * 3)), ("nought",))
        self.assertEqual(judge_bar(5, 2, 4, (2, (0, 0, 0))), ("nought",))

    def test_the_least_arc(self):
        self.assertEqual(judge_bar(7, 3, 4, (2, (1, 0, 0))), ("arc", 0))
        self.assertEqual(judge_bar(7, 3, 4, (2, (2, 1, 0))), ("arc", 1))
        self.assertEqual(judge_bar(2, 0, 4, (2, (1, 0, 0))), ("arc", 1))
        self.assertEqual(judge_bar(2, 0, 4, (2, (0, 0, 1))), ("arc", 1))
        self.assertEqual(judge_bar(2, 0, 5, (3, (1, 0, 1, 1))), ("arc", 2))
