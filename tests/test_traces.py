"""loopworth.traces: points [9.2] to [9.5], to the limits of [9.6]."""

import itertools
import random
import unittest
from fractions import Fraction

from loopworth.elements import is_element, product_of, scaled, turned_element
from loopworth.fields import is_number, number, plus
from loopworth.folding import closed_last, fold, loops_round, pictures_by_folds
from loopworth.halves import count, half_of
from loopworth.middles import has_middle, middle
from loopworth.pictures import pictures, straight, turned
from loopworth.ranks import rank_of
from loopworth.rooms import table, value
from loopworth.traces import (
    answers, closed_element, judge_answers, judge_silent, keeps_round, round_rank, round_table, round_value, trace,
    trace_row,
)
from loopworth.worths import length, worth_row
from tests import by_hand
from tests.odd_values import any_values

PRIMES = (2, 3, 5, 7, 11, 13)
FIELDS = (0,) + PRIMES
FRACTIONS = [(0, 1), (1, 1), (-1, 1), (2, 1), (-2, 3), (999999999999, 999999999998)]
WORTHS = [(p, d) for p in PRIMES for d in range(p)] + [(0, d) for d in FRACTIONS]
SOME = [(2, 0), (2, 1), (3, 0), (3, 1), (5, 2), (7, 3), (13, 5), (0, (0, 1)), (0, (1, 1)), (0, (-2, 3)), (0, (3, 1))]
ARC, TWO = ("()", "()"), ("||", "||")
BIG = 10 ** 30


def nought(p):
    return Fraction(0) if p == 0 else 0


def some_element(chance, p, n, many=42):
    found = sorted(chance.sample(pictures(n), min(many, count(2 * n, 0))))
    if p == 0:
        numbers = [by_hand.told(0, Fraction(chance.randrange(-9, 10), chance.randrange(1, 9))) for _ in found]
    else:
        numbers = [chance.randrange(p) for _ in found]
    return tuple((picture, x) for picture, x in zip(found, numbers) if x != number(p, 0))


def trace_by_hand(p, d, element):
    total = nought(p)
    for picture, x in element:
        total += by_hand.plain(p, x) * by_hand.power(p, d, by_hand.loops_round(picture))
    return by_hand.told(p, total)


def round_by_hand(p, d, one, other):
    loops, picture = by_hand.product(one, (other[1], other[0]))
    return by_hand.told(p, by_hand.power(p, d, loops + by_hand.loops_round(picture)))


def heard_by_hand(p, d, n, element):
    found = []
    for picture in pictures_by_folds(n):
        total = nought(p)
        for other, x in element:
            total += by_hand.plain(p, x) * by_hand.plain(p, round_by_hand(p, d, other, picture))
        found.append(by_hand.told(p, total))
    return found


def silent_by_hand(p, d, n, element):
    if not is_element(p, n, element) or element == ():
        return ("form",)
    for picture, x in zip(pictures_by_folds(n), heard_by_hand(p, d, n, element)):
        if x != number(p, 0):
            return ("heard", picture, x)
    return None


class Trace(unittest.TestCase):
    def test_by_loops_round(self):
        chance = random.Random(91)
        for p, d in WORTHS:
            for n in range(5):
                element = some_element(chance, p, n)
                self.assertEqual(trace(p, d, element), trace_by_hand(p, d, element))
                self.assertIs(is_number(p, trace(p, d, element)), True)

    def test_without_pictures_and_points(self):
        for p, d in WORTHS:
            self.assertEqual(trace(p, d, ()), number(p, 0))
            self.assertEqual(trace(p, d, ((("", ""), number(p, 1)),)), number(p, 1))
            self.assertEqual(trace(p, d, ((("|", "|"), number(p, 1)),)), d)

    def test_either_way_round(self):
        chance = random.Random(92)
        for p, d in SOME:
            for n in (1, 2, 3, 4):
                one, other = some_element(chance, p, n, 6), some_element(chance, p, n, 6)
                self.assertEqual(
                    trace(p, d, product_of(p, d, one, other)), trace(p, d, product_of(p, d, other, one))
                )

    def test_great_numbers(self):
        numbers = [(10 ** 29 + 2 * at + 1, 2) for at in range(42)]
        element = tuple(zip(pictures(5), numbers))
        self.assertTrue(is_element(0, 5, element))
        for d in ((999999999999, 10 ** 11 + 3), (0, 1), (-1, 2)):
            self.assertEqual(trace(0, d, element), trace_by_hand(0, d, element))


class ClosedElement(unittest.TestCase):
    def test_by_its_pictures(self):
        chance = random.Random(93)
        for p, d in SOME:
            for n in (1, 2, 3, 4, 5):
                element = some_element(chance, p, n)
                found = closed_element(p, d, element)
                sums = {}
                for picture, x in element:
                    loops, rest = by_hand.closed_last(picture)
                    sums[rest] = sums.get(rest, nought(p)) + by_hand.plain(p, x) * by_hand.power(p, d, loops)
                told = [(picture, by_hand.told(p, sums[picture])) for picture in sorted(sums)]
                self.assertEqual(found, tuple(pair for pair in told if pair[1] != number(p, 0)))
                self.assertIs(is_element(p, n - 1, found), True)
                self.assertEqual(trace(p, d, found), trace(p, d, element))

    def test_where_nothing_is_left(self):
        for p, d in WORTHS:
            self.assertEqual(closed_element(p, d, ()), ())
        for p in FIELDS:
            self.assertEqual(closed_element(p, number(p, 0), ((("|", "|"), number(p, 1)),)), ())
        self.assertEqual(closed_element(5, 2, ((ARC, 3), (TWO, 1))), ())
        self.assertEqual(closed_element(0, (1, 2), ((ARC, (-1, 2)), (TWO, (1, 1)))), ())

    def test_one_point(self):
        self.assertEqual(closed_element(5, 2, ((("|", "|"), 4),)), ((("", ""), 3),))

    def test_no_loop_and_a_worth_of_nought(self):
        self.assertEqual(closed_element(5, 0, ((ARC, 3),)), ((("|", "|"), 3),))

    def test_the_middle_comes_to_the_middle_of_less(self):
        for p, d in SOME:
            for n in (2, 3, 4):
                if has_middle(p, d, n) and has_middle(p, d, n - 1):
                    row = worth_row(p, d, n)
                    if row[n - 1] != number(p, 0):
                        told = by_hand.plain(p, row[n])
                        if p == 0:
                            factor = by_hand.told(0, told / by_hand.plain(0, row[n - 1]))
                        else:
                            factor = told * pow(row[n - 1], -1, p) % p
                        expected = scaled(p, middle(p, d, n - 1), factor)
                        self.assertEqual(closed_element(p, d, middle(p, d, n)), expected)


class RoundValue(unittest.TestCase):
    def test_all_small_pictures(self):
        for p, d in SOME:
            for n in range(4):
                for one, other in itertools.product(pictures(n), repeat=2):
                    found = round_value(p, d, one, other)
                    self.assertEqual(found, round_by_hand(p, d, one, other))
                    self.assertEqual(found, value(p, d, fold(one), fold(other)))
                    self.assertEqual(found, round_value(p, d, other, one))

    def test_thirty_points(self):
        chance = random.Random(94)
        for p, d in ((0, (999999999999, 7)), (13, 5), (2, 1), (7, 0)):
            for n in (12, 30):
                for _ in range(10):
                    one, other = [
                        tuple(half_of(n, k, chance.randrange(count(n, k))) for _ in range(2))
                        for k in (chance.randrange(0, n + 1, 2), chance.randrange(0, n + 1, 2))
                    ]
                    found = round_value(p, d, one, other)
                    self.assertEqual(found, round_by_hand(p, d, one, other))
                    self.assertEqual(found, value(p, d, fold(one), fold(other)))

    def test_no_points(self):
        for p, d in WORTHS:
            self.assertEqual(round_value(p, d, ("", ""), ("", "")), number(p, 1))
            self.assertEqual(round_value(p, d, ("|", "|"), ("|", "|")), d)

    def test_turned_not_straight_on(self):
        up, down = ("()|", "|()"), ("|()", "()|")
        self.assertEqual(round_value(5, 2, up, up), 2 ** 3 % 5)
        self.assertEqual(round_value(5, 2, up, down), 2)


class RoundTable(unittest.TestCase):
    def test_by_round_values_and_as_the_table_of_a_room(self):
        for p, d in SOME:
            for n in range(5 if p else 4):
                some = pictures_by_folds(n)
                expected = tuple(tuple(round_value(p, d, one, other) for other in some) for one in some)
                self.assertEqual(round_table(p, d, n), expected)
                self.assertEqual(expected, table(p, d, 2 * n, 0))

    def test_no_points_and_one_point(self):
        for p, d in WORTHS:
            self.assertEqual([round_table(p, d, 0), round_table(p, d, 1)], [((number(p, 1),),), ((d,),)])


class RoundRank(unittest.TestCase):
    def test_by_the_table(self):
        for p, d in WORTHS:
            for n in range(5 if p else 4):
                rank = rank_of(p, round_table(p, d, n))
                self.assertEqual(round_rank(p, d, n), rank)
                self.assertIs(keeps_round(p, d, n), rank == count(2 * n, 0))

    def test_thirty_points(self):
        for p, d in WORTHS:
            for n in (29, 30):
                found = round_rank(p, d, n)
                self.assertIs(keeps_round(p, d, n), found == count(2 * n, 0))
                self.assertTrue(0 <= found <= count(2 * n, 0))
        self.assertEqual(round_rank(0, (2, 1), 30), count(60, 0))
        self.assertEqual(round_rank(0, (0, 1), 30), 0)
        self.assertEqual(round_rank(0, (1, 1), 30), 1)

    def test_no_points(self):
        for p, d in WORTHS:
            self.assertEqual(round_rank(p, d, 0), 1)
            self.assertIs(keeps_round(p, d, 0), True)


class KeepsRound(unittest.TestCase):
    def test_by_the_length(self):
        for p, d in WORTHS:
            l = length(p, d)
            for n in list(range(20)) + [BIG - 1, BIG]:
                self.assertIs(keeps_round(p, d, n), l is None or l > n + 1)


class JudgeSilent(unittest.TestCase):
    def test_all_small_elements(self):
        for p, d in ((2, 0), (2, 1), (3, 0), (3, 1), (3, 2)):
            for n in (0, 1, 2, 3) if p == 2 else (0, 1, 2):
                silent = 0
                for numbers in itertools.product(range(p), repeat=count(2 * n, 0)):
                    element = tuple((picture, x) for picture, x in zip(pictures(n), numbers) if x)
                    fault = judge_silent(p, d, n, element)
                    self.assertEqual(fault, silent_by_hand(p, d, n, element))
                    silent += fault is None
                self.assertEqual(silent + 1, p ** (count(2 * n, 0) - round_rank(p, d, n)))

    def test_some_elements(self):
        chance = random.Random(95)
        for p, d in SOME:
            for n in range(5 if p else 4):
                element = some_element(chance, p, n)
                self.assertEqual(judge_silent(p, d, n, element), silent_by_hand(p, d, n, element))

    def test_the_first_picture_by_folds(self):
        up, down = ("()|", "|()"), ("|()", "()|")
        self.assertIsNone(judge_silent(0, (0, 1), 2, ((ARC, (5, 1)),)))
        self.assertEqual(judge_silent(7, 3, 3, ((up, 1),)), ("heard", straight(3), 3))
        # With the straight picture and the arcs, up and down have the same values.
        self.assertEqual(judge_silent(7, 3, 3, ((up, 1), (down, 6))), ("heard", down, (3 - 27) % 7))

    def test_any_value(self):
        for p, d in ((5, 2), (2, 1), (0, (1, 1))):
            for n in (0, 1, 2, 3):
                for told in any_values():
                    self.assertEqual(judge_silent(p, d, n, told), silent_by_hand(p, d, n, told), repr(told)[:80])

    def test_form(self):
        for told in ((), [(ARC, 1)], ((ARC, 0),), ((ARC, 5),), ((TWO, 1), (ARC, 1)), ((ARC, True),), None, ((("|", "|"), 1),)):
            self.assertEqual(judge_silent(5, 2, 2, told), ("form",))


class Answers(unittest.TestCase):
    def test_they_are_right(self):
        for p, d in WORTHS:
            for n in range(5 if p else 4):
                word, told = answers(p, d, n)
                if length(p, d) is None or length(p, d) > n + 1:
                    self.assertEqual(word, "keeps")
                    self.assertIs(type(told), list)
                    self.assertEqual(len(told), count(2 * n, 0))
                    for at, element in enumerate(told):
                        self.assertIs(is_element(p, n, element), True)
                        if n < 4 or d == 3:
                            expected = [number(p, int(at == j)) for j in range(len(told))]
                            self.assertEqual(heard_by_hand(p, d, n, element), expected)
                else:
                    self.assertEqual(word, "loses")
                    self.assertIsNone(silent_by_hand(p, d, n, told))
                self.assertIsNone(judge_answers(p, d, n, (word, told)))

    def test_no_points_and_one_point(self):
        for p in FIELDS:
            one = number(p, 1)
            self.assertEqual(answers(p, one, 0), ("keeps", [((("", ""), one),)]))
            self.assertEqual(answers(p, one, 1), ("keeps", [((("|", "|"), one),)]))
            self.assertEqual(answers(p, number(p, 0), 1)[0], "loses")

    def test_four_points(self):
        self.assertEqual([answers(p, 2, 4)[0] for p in PRIMES[1:]], ["loses", "loses", "keeps", "keeps", "keeps"])
        self.assertEqual([answers(0, d, 3)[0] for d in FRACTIONS], ["loses"] * 3 + ["keeps"] * 3)

    def test_a_new_list_each_time(self):
        answers(5, 2, 2)[1].clear()
        self.assertEqual(len(answers(5, 2, 2)[1]), 2)


class JudgeAnswers(unittest.TestCase):
    def fault_by_hand(self, p, d, n, told):
        if type(told) is not tuple or len(told) != 2 or told[0] not in ("keeps", "loses"):
            return ("form",)
        word, rest = told
        if word == "loses":
            fault = silent_by_hand(p, d, n, rest)
            return ("silent", fault) if fault else None
        if type(rest) not in (list, tuple) or len(rest) != count(2 * n, 0):
            return ("form",)
        if not all(is_element(p, n, element) and element for element in rest):
            return ("form",)
        for k, element in enumerate(rest):
            for j, x in enumerate(heard_by_hand(p, d, n, element)):
                if x != number(p, int(k == j)):
                    return ("value", k, j)
        return None

    def test_any_value(self):
        for p, d, n in ((5, 2, 2), (2, 1, 2), (0, (1, 1), 1), (0, (3, 1), 0), (2, 0, 0)):
            for some in any_values():
                self.assertEqual(judge_answers(p, d, n, some), ("form",), repr(some)[:80])
            for word in ("keeps", "loses", "keep", "", None, ("keeps",), ["loses"], True):
                for some in any_values():
                    expected = self.fault_by_hand(p, d, n, (word, some))
                    self.assertEqual(judge_answers(p, d, n, (word, some)), expected, repr(some)[:80])

    def test_lists_and_tuples(self):
        for p, d, n in ((5, 2, 2), (0, (3, 1), 3), (7, 3, 0)):
            word, told = answers(p, d, n)
            self.assertIsNone(judge_answers(p, d, n, (word, tuple(told))))
            self.assertIsNone(judge_answers(p, d, n, (word, list(told))))
            for wrong in ([word, told], (word, told, 1), (word,), (word, told[:-1]), (word, told + told[:1]),
                          (word, told[:-1] + [()]), (word, {0: told}), ("loses", told, told), told):
                self.assertEqual(judge_answers(p, d, n, wrong), ("form",))
            for other_word in ("keep", "keepss", "", "Keeps", None, True, ("keeps",)):
                self.assertEqual(judge_answers(p, d, n, (other_word, told)), ("form",))
            self.assertEqual(judge_answers(p, d, n, ("loses", told)), ("silent", ("form",)))
            self.assertEqual(judge_answers(p, d, n, ("loses", ())), ("silent", ("form",)))

    def test_changed_answers(self):
        chance = random.Random(96)
        for p, d, n in ((5, 2, 2), (5, 2, 3), (7, 3, 2), (0, (3, 1), 3), (0, (-2, 3), 2)):
            _, told = answers(p, d, n)
            for _ in range(12):
                changed = list(told)
                for _ in range(2):
                    changed[chance.randrange(len(told))] = some_element(chance, p, n) or told[0]
                changed = ("keeps", changed)
                self.assertEqual(judge_answers(p, d, n, changed), self.fault_by_hand(p, d, n, changed))
            turned_told = [turned_element(element) for element in told]
            self.assertEqual(
                judge_answers(p, d, n, ("keeps", turned_told)), self.fault_by_hand(p, d, n, ("keeps", turned_told))
            )
            self.assertEqual(judge_answers(p, d, n, ("keeps", told[::-1])), ("value", 0, 0))
            twice = told[:1] + [scaled(p, told[1], number(p, 2))] + told[2:]
            self.assertEqual(judge_answers(p, d, n, ("keeps", twice)), ("value", 1, 1))

    def test_never_both(self):
        chance = random.Random(97)
        for p, d in SOME:
            for n in (1, 2, 3):
                told = [some_element(chance, p, n) for _ in range(count(2 * n, 0))]
                if keeps_round(p, d, n):
                    self.assertEqual(judge_answers(p, d, n, ("loses", told[0]))[0], "silent")
                elif all(told):
                    self.assertEqual(judge_answers(p, d, n, ("keeps", told))[0], "value")

    def test_silent_ones(self):
        self.assertIsNone(judge_answers(2, 1, 2, ("loses", ((ARC, 1), (TWO, 1)))))
        self.assertIsNone(judge_answers(0, (1, 1), 2, ("loses", ((ARC, (-3, 2)), (TWO, (3, 2))))))
        self.assertEqual(judge_answers(5, 2, 2, ("loses", ((ARC, 1),))), ("silent", ("heard", TWO, 2)))


class TraceRow(unittest.TestCase):
    def test_by_products(self):
        chance = random.Random(98)
        for p, d in SOME:
            for n in range(5):
                element = some_element(chance, p, n, 5)
                most = 6 if p else 3
                expected, copies = [], ((straight(n), number(p, 1)),)
                for _ in range(most + 1):
                    expected.append(trace_by_hand(p, d, copies))
                    copies = product_of(p, d, element, copies)
                for m in range(most + 1):
                    found = trace_row(p, d, n, element, m)
                    self.assertIs(type(found), list)
                    self.assertEqual(found, expected[:m + 1])

    def test_of_no_copies_and_without_pictures(self):
        for p, d in WORTHS:
            for n in range(5):
                first = by_hand.told(p, by_hand.power(p, d, n))
                self.assertEqual(trace_row(p, d, n, (), 0), [first])
                self.assertEqual(trace_row(p, d, n, (), 2), [first, number(p, 0), number(p, 0)])

    def test_five_points(self):
        chance = random.Random(99)
        element = some_element(chance, 13, 5)
        found = trace_row(13, 5, 5, element, 6)
        self.assertEqual(found[1:3], [trace(13, 5, element), trace(13, 5, product_of(13, 5, element, element))])
        element = tuple((picture, (10 ** 29 + 2 * at + 1, 2 * at + 2)) for at, picture in enumerate(pictures(5)))
        element = tuple((picture, by_hand.told(0, Fraction(u, e))) for picture, (u, e) in element)
        self.assertEqual(len(trace_row(0, (2, 3), 5, element, 3)), 4)

    def test_middles(self):
        for p, d in WORTHS:
            for n in range(1, 6):
                if has_middle(p, d, n):
                    value_there = worth_row(p, d, n)[n]
                    self.assertEqual(trace(p, d, middle(p, d, n)), value_there)
                    if n < 5:
                        found = trace_row(p, d, n, middle(p, d, n), 2)
                        self.assertEqual(found[1:], [value_there, value_there])


class Together(unittest.TestCase):
    def test_sums_close_to_sums(self):
        chance = random.Random(100)
        for p, d in SOME:
            one, other = some_element(chance, p, 3), some_element(chance, p, 3)
            both = {picture: x for picture, x in one}
            for picture, x in other:
                both[picture] = plus(p, both.get(picture, number(p, 0)), x)
            whole = tuple((picture, both[picture]) for picture in sorted(both) if both[picture] != number(p, 0))
            self.assertEqual(trace(p, d, whole), plus(p, trace(p, d, one), trace(p, d, other)))

    def test_closed_pictures(self):
        for picture in pictures(4):
            loops, rest = closed_last(picture)
            self.assertEqual(closed_element(7, 3, ((picture, 1),)), ((rest, 3 if loops else 1),))
            self.assertEqual(trace(7, 3, ((turned(picture), 1),)), 3 ** loops_round(picture) % 7)
