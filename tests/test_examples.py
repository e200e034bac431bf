"""The examples of the document's interface answer as printed."""

import unittest

STAGE_1 = """
>>> from loopworth.fields import is_field, is_number, minus, number, over, plus, times
>>> [is_field(7), is_field(0), is_field(17), is_field(True), is_number(5, 4), is_number(5, 5), is_number(0, (2, 4)), is_number(0, (0, 1)), is_number(0, 1), is_number(2, True)]
[True, True, False, False, True, False, False, True, False, False]
>>> [number(5, -1), number(0, -3), plus(5, 3, 4), minus(5, 1, 3), times(7, 3, 5), over(7, 1, 3), plus(0, (1, 2), (1, 6)), minus(0, (1, 2), (1, 2)), over(0, (1, 2), (-3, 4))]
[4, (-3, 1), 2, 3, 1, 5, (2, 3), (0, 1), (-2, 3)]

>>> from loopworth.worths import judge_length, length, lengths_of, term, worth_row, worths_of
>>> [worth_row(5, 2, 5), worth_row(2, 1, 3), worth_row(0, (1, 2), 2), term(5, 2, 5), term(7, 0, 10 ** 30)]
[[1, 2, 3, 4, 0, 1], [1, 1, 0, 1], [(1, 1), (1, 2), (-3, 4)], 1, 1]
>>> [length(5, 2), length(2, 1), length(0, (1, 1)), length(0, (1, 2)), lengths_of(5), worths_of(5, 3), worths_of(0, 3), worths_of(7, 40)]
[5, 3, 3, None, [2, 3, 5, 5, 3], (1, 4), ((-1, 1), (1, 1)), ()]
>>> [judge_length(5, 2, 5), judge_length(5, 2, None), judge_length(5, 2, 4), judge_length(5, 2, 6), judge_length(0, (2, 1), 9), judge_length(0, (1, 2), None), judge_length(5, 2, "5")]
[None, ('early', 5), ('term', 4), ('early', 5), ('none',), None, ('form',)]
"""

STAGES = (STAGE_1,)


def steps(text):
    """The pairs of what is entered and what is printed behind it, None for nothing."""
    found = []
    for line in text.splitlines():
        if line.startswith(">>> "):
            found.append((line[4:], None))
        elif line:
            found[-1] = (found[-1][0], line)
    return found


class Examples(unittest.TestCase):
    def test_they_answer_as_printed(self):
        for stage in STAGES:
            names = {}
            for entered, printed in steps(stage):
                if printed is None:
                    exec(entered, names)
                else:
                    with self.subTest(entered=entered):
                        self.assertEqual(repr(eval(entered, names)), printed)

    def test_there_are_some(self):
        for stage in STAGES:
            self.assertTrue([entered for entered, printed in steps(stage) if printed is not None])
