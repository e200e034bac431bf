"""What holds of every function: points [0.2] and [0.3]."""

import copy
import inspect
import unittest

from loopworth import (
    acting, digits, elements, errors, fields, folding, halves, house, left, less, middles, pictures, pieces, ranks,
    rooms, texts, traces, worths,
)
from loopworth.console import Console
from tests.odd_values import any_values, house_like
from tests.test_interface import FUNCTIONS, listed

FIELDS = (0, 2, 3, 5, 7, 11, 13)
FRACTIONS = [((1, 2), (1, 3)), ((2, 1), (0, 1))]
CUP, TWO = ("()", "()"), ("||", "||")
ONE, OTHER = ((CUP, 2), (TWO, 3)), ((CUP, (-1, 2)), (TWO, (1, 1)))
WORD = ("word", (3, (0, 1)))

CALLS = {
    fields: (
        ("is_field", 7), ("is_number", 5, 4), ("number", 7, -3), ("number", 0, -3), ("plus", 5, 3, 4),
        ("plus", 0, (1, 2), (1, 6)), ("minus", 0, (1, 2), (1, 2)), ("times", 7, 3, 5), ("times", 0, (1, 2), (2, 3)),
        ("over", 7, 1, 3), ("over", 0, (1, 2), (-3, 4)),
    ),
    worths: (
        ("worth_row", 5, 2, 5), ("worth_row", 0, (1, 2), 4), ("term", 5, 2, 10 ** 30), ("length", 5, 2),
        ("length", 0, (1, 2)), ("judge_length", 5, 2, 4), ("judge_length", 5, 2, 6), ("lengths_of", 13),
        ("worths_of", 5, 3), ("worths_of", 0, 3),
    ),
    halves: (
        ("is_half", "(())"), ("points", "()|"), ("loose", "()|"), ("partner", "(())", 1), ("arcs_of", "(())|"),
        ("near", "()|()"), ("mirrored", "()|"), ("halves", 6, 2), ("halves", 3, 0), ("count", 60, 4),
        ("all_halves", 5), ("path", "()|"), ("half_along", (0, 1, 2, 1)), ("half_by", 4, ((1, 2), (0, 3))),
        ("half_by", 4, [(1, 2), (0, 3)]), ("half_number", "||()"), ("half_of", 8, 2, 5), ("next_half", "()||"),
        ("next_half", "||()"),
    ),
    pictures: (
        ("is_picture", CUP), ("straight", 3), ("arc", 4, 1), ("pictures", 4), ("turned", ("()|", "|()")),
        ("flipped", ("()|", "()|")), ("glue", "()||", "|()|"), ("product", CUP, CUP), ("of_word", 4, (0, 1, 1)),
        ("are_alike", 4, (0, 2), [2, 0]), ("letters_of", ("(())", "()()")), ("fewest", ("(())", "()()")),
        ("fewest_length", ("(())", "()()")),
    ),
    rooms: (
        ("value", 7, 3, "()()", "(())"), ("table", 7, 3, 4, 2), ("table", 0, (1, 2), 4, 2),
        ("values_of", 7, 3, 4, 2, (1, 0, 3)), ("values_of", 0, (1, 2), 4, 0, ((1, 2), (1, 3))),
    ),
    ranks: (
        ("rank_of", 5, [(0, 2), (2, 4)]), ("rank_of", 0, FRACTIONS), ("reduced", 5, [(0, 2), (2, 4), (1, 1)]),
        ("reduced", 0, FRACTIONS), ("reduced", 5, []), ("determinant", 7, [(0, 2), (3, 4)]),
        ("determinant", 0, FRACTIONS), ("table_rank", 2, 1, 6, 2), ("nought_basis", 2, 1, 6, 2),
        ("nought_basis", 7, 3, 4, 2), ("judge_nought", 2, 1, 4, 0, (1, 0)),
    ),
    digits: (
        ("digits", 2, 3, 100), ("digits", 0, None, 7), ("of_digits", 2, 3, (2, 1)), ("support", 3, 2, 23),
        ("holds", 2, 3, 0, 4), ("next_over", 2, 3, 0),
    ),
    pieces: (
        ("size", 2, 1, 8, 2), ("sizes", 2, 1, 8), ("pieces_of", 2, 1, 8, 0), ("keeps_all", 2, 1, 8, 2),
        ("lost", 2, 1, 8), ("all_kept", 2, 1, 8), ("shares_of", 2, 1, 8, 4),
    ),
    elements: (
        ("is_element", 5, 2, ONE), ("element", 5, [(TWO, 3), (CUP, 2), (TWO, 2)]), ("share", 5, ONE, CUP),
        ("added", 5, ONE, ONE), ("scaled", 0, OTHER, (2, 3)), ("product_of", 5, 3, ONE, ONE),
        ("product_of", 0, (2, 1), OTHER, OTHER), ("word_element", 5, 3, 3, (0, 1, 1)), ("turned_element", ONE),
    ),
    middles: (
        ("has_middle", 2, 1, 10 ** 30), ("middle", 2, 1, 2), ("middle", 0, (2, 1), 4), ("bar", 2, 1, 4),
        ("bar", 0, (1, 1), 3), ("judge_middle", 0, (2, 1), 2, OTHER), ("judge_middle", 5, 2, 2, ONE),
        ("judge_bar", 2, 1, 4, (0, (1, 0))),
    ),
    acting: (
        ("is_vector", 7, 4, 2, (1, 2, 3)), ("unit_of", 7, 4, 2, "|()|"), ("under", ("(())", "()()"), "()||"),
        ("acted", 7, 3, 4, 2, ("()||", "|()|"), (1, 2, 3)), ("acted", 0, (1, 2), 2, 0, CUP, ((1, 3),)),
        ("matrix_of", 7, 3, 4, 2, ("()||", "|()|")), ("meet", 7, 3, 4, 2, (1, 2, 3), (1, 0, 0)),
        ("closure", 2, 1, 4, 0, [(1, 1)]), ("closure", 7, 3, 4, 2, [(1, 2, 3), (0, 0, 0)]),
        ("closure", 5, 2, 4, 0, []), ("closure", 0, (1, 1), 4, 0, FRACTIONS),
        ("is_closed", 2, 1, 4, 0, [(1, 1)]), ("is_closed", 2, 1, 4, 0, [(0, 1)]), ("brings", 2, 1, 4, 0, (0, 1)),
        ("way_to", 2, 1, 4, 0, (0, 1), "()()"), ("way_to", 2, 1, 4, 0, (1, 1), "()()"),
        ("judge_way", 2, 1, 4, 0, (0, 1), "()()", (("(())", "(())"), 1)),
    ),
    left: (
        ("left_halves", 2, 0, 4, 2), ("left_halves", 3, 0, 2, 0), ("left_table", 2, 0, 4, 2),
        ("rest_of", 2, 0, 4, 2, (1, 1, 0)), ("rest_of", 0, (1, 1), 4, 0, ((1, 2), (1, 3))),
        ("are_left_alike", 2, 0, 4, 2, (1, 1, 0), (0, 1, 1)), ("left_matrix", 2, 0, 4, 2, ("()||", "|()|")),
    ),
    less: (
        ("cut", "(())"), ("join", "|()", True), ("grown", CUP), ("split", 7, 4, 2, (1, 2, 3)),
        ("put_together", 7, 4, 2, (1, 2), (3,)), ("rooms_of", 2, 1, 6, 0), ("rooms_of", 2, 0, 4, 0),
        ("times", 2, 1, 6, 2), ("times_down", 2, 1, 6, 2, 2), ("times_down", 2, 0, 4, 0, 1),
        ("falls_apart", 2, 1, 6, 2),
    ),
    folding: (
        ("fold", ("|()", "()|")), ("unfold", "(())()"), ("pictures_by_folds", 3), ("loops_round", CUP),
        ("closed_last", ("|()", "()|")),
    ),
    traces: (
        ("trace", 5, 2, ONE), ("trace", 0, (1, 2), OTHER), ("closed_element", 5, 2, ONE),
        ("closed_element", 0, (3, 1), OTHER), ("round_value", 5, 2, CUP, TWO), ("round_table", 5, 2, 2),
        ("round_rank", 2, 1, 30), ("keeps_round", 2, 1, 10 ** 30), ("judge_silent", 5, 2, 2, ONE),
        ("answers", 5, 2, 2), ("answers", 2, 1, 2), ("judge_answers", 2, 1, 2, ("loses", ((TWO, 1),))),
        ("judge_answers", 5, 2, 1, ("keeps", [((("|", "|"), 1),)])), ("trace_row", 5, 2, 2, ONE, 3),
    ),
    texts: (
        ("picture_text", CUP), ("element_text", ONE), ("element_text", OTHER), ("thing_text", WORD),
        ("deed_text", ("led", "a", "b", 0, (1, 2))), ("read_deed", "word a 3 0.1"),
    ),
    house: (
        ("is_thing", WORD), ("after", {"b": WORD}, ("led", "a", "b", 5, 3)), ("after", {"b": WORD}, ("away", "b")),
        ("after", {"b": WORD}, ("turn", "b", "b")), ("ask", {"b": ("room", (2, 1, 4, 0))}, ("change", "b", "b")),
        ("ask", {"b": WORD}, ("alike", "b", "b")),
    ),
}


def calls():
    for module, told in CALLS.items():
        for name, *arguments in told:
            yield getattr(module, name), arguments


def lookers(value):
    """What each is_.. function tells of a value."""
    yield fields.is_field(value)
    yield halves.is_half(value)
    yield pictures.is_picture(value)
    yield house.is_thing(value)
    for p in FIELDS:
        yield fields.is_number(p, value)
        yield acting.is_vector(p, 2, 0, value)
        for n in (0, 2, 3):
            yield elements.is_element(p, n, value)


def judged(value):
    """What each judge tells of a value."""
    for p in FIELDS:
        yield worths.judge_length(p, fields.number(p, 2), value)
        for n, k in ((0, 0), (2, 0), (4, 2)):
            yield ranks.judge_nought(p, fields.number(p, 1), n, k, value)
        for n in (1, 2, 3):
            yield middles.judge_middle(p, fields.number(p, 1), n, value)
            yield middles.judge_bar(p, fields.number(p, 1), n, value)
            yield traces.judge_silent(p, fields.number(p, 1), n, value)
            yield traces.judge_answers(p, fields.number(p, 1), n, value)
        vector = acting.unit_of(p, 4, 0, "(())")
        yield acting.judge_way(p, fields.number(p, 2), 4, 0, vector, "()()", value)


class EveryFunction(unittest.TestCase):
    def test_all_of_the_interface_are_called_here(self):
        for module, told in CALLS.items():
            names = [name for name, _ in listed(FUNCTIONS[module.__name__.split(".")[1] + ".py"])]
            self.assertEqual(sorted({call[0] for call in told}), sorted(names))
        self.assertEqual(len(CALLS), len(FUNCTIONS))

    def test_arguments_are_passed_by_position(self):
        for function, arguments in calls():
            self.assertEqual(len(inspect.signature(function).parameters), len(arguments), function.__name__)

    def test_the_same_call_returns_equal_answers(self):
        for function, arguments in calls():
            with self.subTest(function=function.__name__):
                first = copy.deepcopy(function(*arguments))
                self.assertEqual(function(*arguments), first)
                self.assertEqual(repr(function(*copy.deepcopy(arguments))), repr(first))

    def test_no_argument_is_changed(self):
        for function, arguments in calls():
            before = copy.deepcopy(arguments)
            function(*arguments)
            self.assertEqual(repr(arguments), repr(before), function.__name__)

    def test_lists_that_are_returned_are_not_kept(self):
        for function, arguments in calls():
            answer = function(*arguments)
            if isinstance(answer, tuple) and answer[:1] == ("keeps",):
                answer = answer[1]
            if isinstance(answer, (list, dict)):
                first = copy.deepcopy(answer)
                self.assertFalse([told for told in arguments if told is answer])
                answer.clear()
                again = function(*arguments)
                self.assertEqual(again[1] if isinstance(again, tuple) else again, first)

    def test_where_a_list_is_asked_a_tuple_may_be_passed(self):
        for function, arguments in calls():
            lists = [at for at, told in enumerate(arguments) if isinstance(told, list)]
            others = [tuple(told) if isinstance(told, list) else told for told in arguments]
            if lists:
                self.assertEqual(function(*arguments), function(*others), function.__name__)

    def test_any_value_that_is_handed_in_stays_as_it_was(self):
        desk = Console()
        shelf = {"b": WORD}
        for before, value in zip(any_values() + house_like(), any_values() + house_like()):
            list(lookers(value))
            list(judged(value))
            desk.say(value)
            for refuse, arguments in (
                (house.after, (shelf, value)), (house.ask, (shelf, value)), (texts.read_deed, (value,)),
                (house.after, (shelf, ("led", "a", "b", 0, value))), (house.after, (shelf, ("word", value, 3, value))),
                (desk.house().do, (value,)), (desk.house().keep, (value, value)), (desk.house().today, (value,)),
            ):
                try:
                    refuse(*arguments)
                except errors.LoopError:
                    pass
            for raised in (errors.NoMiddle, errors.BadHalf, errors.BadText, errors.BadName, errors.UnknownName):
                raised(value)
            self.assertEqual(repr(value), repr(before))

    def test_is_functions_return_true_or_false(self):
        for value in any_values():
            for told in lookers(value):
                self.assertIs(type(told), bool)

    def test_further_answers_that_are_true_or_false(self):
        for function, arguments in calls():
            if function.__name__ in (
                "are_alike", "holds", "keeps_all", "all_kept", "has_middle", "is_closed", "are_left_alike",
                "falls_apart", "keeps_round",
            ):
                self.assertIs(type(function(*arguments)), bool)

    def test_judges_return_none_or_a_fault(self):
        for value in any_values():
            for fault in judged(value):
                self.assertTrue(fault is None or (type(fault) is tuple and type(fault[0]) is str), repr(fault))

    def test_true_and_false_are_no_integers_and_no_numbers(self):
        for value in (True, False):
            self.assertIs(fields.is_field(value), False)
            for p in FIELDS:
                self.assertIs(fields.is_number(p, value), False)
                self.assertEqual(worths.judge_length(p, fields.number(p, 0), value), ("form",))
                self.assertEqual(ranks.judge_nought(p, fields.number(p, 0), 2, 0, (value,)), ("form",))
                self.assertEqual(middles.judge_bar(p, fields.number(p, 0), 2, (0, (value,))), ("form",))
                self.assertEqual(middles.judge_bar(p, fields.number(p, 0), 2, (value, (fields.number(p, 1),))), ("form",))
                self.assertIs(elements.is_element(p, 2, ((CUP, value),)), False)
                self.assertIs(acting.is_vector(p, 2, 0, (value,)), False)
                self.assertEqual(traces.judge_silent(p, fields.number(p, 1), 2, ((CUP, value),)), ("form",))
                way = (("()", "()"), value)
                vector = (fields.number(p, 1),)
                self.assertEqual(acting.judge_way(p, fields.number(p, 1), 2, 0, vector, "()", way), ("form",))
                self.assertIs(house.is_thing(("element", (p, 2, ((CUP, value),)))), False)
                self.assertIs(house.is_thing(("room", (p, value, 2, 0))), False)
