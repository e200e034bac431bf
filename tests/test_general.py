"""What holds of every function: points [0.2] and [0.3]."""

import copy
import unittest

from loopworth import errors
from loopworth.fields import is_field, is_number, minus, number, over, plus, times
from loopworth.worths import judge_length, length, lengths_of, term, worth_row, worths_of
from tests.odd_values import any_values

FIELDS = (0, 2, 3, 5, 7, 11, 13)
CALLS = (
    (is_field, (7,)), (is_number, (5, 4)), (number, (7, -3)), (number, (0, -3)), (plus, (5, 3, 4)),
    (plus, (0, (1, 2), (1, 6))), (minus, (0, (1, 2), (1, 2))), (times, (7, 3, 5)), (times, (0, (1, 2), (2, 3))),
    (over, (7, 1, 3)), (over, (0, (1, 2), (-3, 4))), (worth_row, (5, 2, 5)), (worth_row, (0, (1, 2), 4)),
    (term, (5, 2, 10 ** 30)), (length, (5, 2)), (length, (0, (1, 2))), (judge_length, (5, 2, 4)),
    (judge_length, (5, 2, 6)), (lengths_of, (13,)), (worths_of, (5, 3)), (worths_of, (0, 3)),
)


class EveryFunction(unittest.TestCase):
    def test_the_same_call_returns_equal_answers(self):
        for function, arguments in CALLS:
            with self.subTest(function=function.__name__):
                first = copy.deepcopy(function(*arguments))
                self.assertEqual(function(*arguments), first)
                self.assertEqual(repr(function(*copy.deepcopy(arguments))), repr(first))

    def test_lists_that_are_returned_are_not_kept(self):
        for function, arguments in CALLS:
            answer = function(*arguments)
            if isinstance(answer, list):
                first = list(answer)
                answer.clear()
                self.assertEqual(function(*arguments), first)

    def test_any_value_that_is_handed_in_stays_as_it_was(self):
        for before, value in zip(any_values(), any_values()):
            is_field(value)
            for p in FIELDS:
                is_number(p, value)
                judge_length(p, number(p, 1), value)
            for raised in (errors.NoMiddle, errors.BadHalf, errors.BadText, errors.BadName, errors.UnknownName):
                raised(value)
            self.assertEqual(repr(value), repr(before))

    def test_is_functions_return_true_or_false(self):
        for value in any_values():
            self.assertIs(type(is_field(value)), bool)
            for p in FIELDS:
                self.assertIs(type(is_number(p, value)), bool)

    def test_judges_return_none_or_a_fault(self):
        for value in any_values():
            for p in FIELDS:
                fault = judge_length(p, number(p, 2), value)
                self.assertTrue(fault is None or (type(fault) is tuple and type(fault[0]) is str), repr(fault))

    def test_true_and_false_are_no_integers_and_no_numbers(self):
        for value in (True, False):
            self.assertIs(is_field(value), False)
            for p in FIELDS:
                self.assertIs(is_number(p, value), False)
                self.assertEqual(judge_length(p, number(p, 0), value), ("form",))
