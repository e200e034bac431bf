"""loopworth.errors: which classes there are, what they tell, and that they keep copies."""

import unittest

from loopworth import errors
from tests.odd_values import any_values, nested

TOLD = (("NoMiddle", "number"), ("BadHalf", "told"), ("BadText", "place"), ("BadName", "name"), ("UnknownName", "name"))
SILENT = ("HasMiddle", "TooMany", "BadDeed", "NothingDone")


class Classes(unittest.TestCase):
    def test_loop_error_stands_directly_beneath_value_error(self):
        self.assertEqual(errors.LoopError.__bases__, (ValueError,))

    def test_all_others_stand_directly_beneath_loop_error(self):
        for name in [name for name, _ in TOLD] + list(SILENT):
            with self.subTest(name=name):
                self.assertEqual(getattr(errors, name).__bases__, (errors.LoopError,))

    def test_they_are_defined_in_this_file(self):
        for name in [name for name, _ in TOLD] + list(SILENT) + ["LoopError"]:
            self.assertEqual(getattr(errors, name).__module__, "loopworth.errors")

    def test_those_without_attributes_take_no_arguments(self):
        for name in SILENT:
            with self.subTest(name=name):
                error = getattr(errors, name)()
                self.assertEqual(vars(error), {})
                with self.assertRaises(errors.LoopError):
                    raise error

    def test_what_is_told_stands_under_the_listed_name_alone(self):
        for name, attribute in TOLD:
            for value in any_values():
                error = getattr(errors, name)(value)
                self.assertEqual(vars(error), {attribute: value})
                self.assertIs(type(getattr(error, attribute)), type(value))

    def test_they_can_be_caught_by_the_classes_above(self):
        for name, attribute in TOLD:
            for above in (getattr(errors, name), errors.LoopError, ValueError):
                with self.assertRaises(above) as caught:
                    raise getattr(errors, name)("x")
                self.assertEqual(getattr(caught.exception, attribute), "x")


class Copies(unittest.TestCase):
    def kept(self, value):
        for name, attribute in TOLD:
            yield getattr(getattr(errors, name)(value), attribute)

    def test_changes_of_a_list_stay_outside(self):
        for name, attribute in TOLD:
            value = [1, [2]]
            error = getattr(errors, name)(value)
            value[1].append(3)
            value.append(4)
            self.assertEqual(getattr(error, attribute), [1, [2]])

    def test_changes_of_a_dict_stay_outside(self):
        for name, attribute in TOLD:
            value = {"a": {"b": [1]}, "c": 2}
            error = getattr(errors, name)(value)
            value["a"]["b"].append(2)
            value["a"]["d"] = 3
            del value["c"]
            self.assertEqual(getattr(error, attribute), {"a": {"b": [1]}, "c": 2})

    def test_changes_within_tuples_stay_outside(self):
        for name, attribute in TOLD:
            inner_list, inner_dict = [1], {"a": 1}
            error = getattr(errors, name)((0, (inner_list, (inner_dict,))))
            inner_list.append(2)
            inner_dict["b"] = 2
            self.assertEqual(getattr(error, attribute), (0, ([1], ({"a": 1},))))

    def test_changes_of_what_is_kept_stay_inside(self):
        value = [[1], {"a": [2]}, ([3],)]
        for kept in self.kept(value):
            kept[0].append(9)
            kept[1]["a"].append(9)
            kept[2][0].append(9)
            self.assertEqual(value, [[1], {"a": [2]}, ([3],)])

    def test_nothing_else_of_an_error_holds_the_argument(self):
        value = [1]
        for name, _ in TOLD:
            error = getattr(errors, name)(value)
            for told in error.args:
                self.assertIsNot(told, value)

    def test_however_deep(self):
        for depth in (1, 10, 40, 5000):
            value = bottom = []
            for level in range(depth):
                value = ([value], {"a": value}, (0, value, 1))[level % 3]
            for kept in self.kept(value):
                for level in reversed(range(depth)):
                    kept = kept["a"] if level % 3 == 1 else kept[level % 3 // 2]
                self.assertEqual(kept, [])
                self.assertIsNot(kept, bottom)

    def test_the_kinds_and_the_order_of_keys_stay(self):
        value = {2: (True, 1, None), 1: [False, 0, "a"], (3, 4): {}, "x": ()}
        for kept in self.kept(value):
            self.assertEqual(repr(kept), repr(value))

    def test_nested_values_of_each_kind(self):
        for kind in (list, tuple, dict):
            for kept in self.kept(nested(kind, 10)):
                self.assertEqual(kept, nested(kind, 10))
