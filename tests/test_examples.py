"""The examples of the document's interface answer as printed."""

import unittest

STAGE_1 = """
>>> from loopworth.fields import is_field, is_number, minus, number, over, plus, times
>>> [is_field(7), is_field(0), is_field(17), is_field(True), is_number(5, 4), is_number(5, 5), is_number(0, (2, 4)), is_number(0, (0, 1)), is_number(0, 1), is_number(2, True)]
[True, True, False, False, True, False, False, True, False, False]
>>> [number(5, -1), number(0, -3), plus(5, 3, 4), minus(5, 1, 3), times(7, 3, 5), over(7, 1, 3), plus(0, (1, 2), (1, 6)), minus(0, (1, 2), (1, 2)), over(0, (1, 2), (-3, 4))]
[4, (-3, 1), 2, 3, 1, 5, (2, 3), (0, 1), (-2, 3)]

>>> from loopworth.worths import judge_length, length, lengths_of, term, worth_row, worths_of
>>> [worth_row(5, 2, 5), worth_row(2, 1, 3), worth_row(0, (1, 2), 2), term(5, 2, 5), term(7, 0, 10 ** 30)]
[[1, 2, 3, 4, 0, 1], [1, 1, 0, 1], [(1, 1), (1, 2), (-3, 4)], 1, 1]
>>> [length(5, 2), length(2, 1), length(0, (1, 1)), length(0, (1, 2)), lengths_of(5), worths_of(5, 3), worths_of(0, 3), worths_of(7, 40)]
[5, 3, 3, None, [2, 3, 5, 5, 3], (1, 4), ((-1, 1), (1, 1)), ()]
>>> [judge_length(5, 2, 5), judge_length(5, 2, None), judge_length(5, 2, 4), judge_length(5, 2, 6), judge_length(0, (2, 1), 9), judge_length(0, (1, 2), None), judge_length(5, 2, "5")]
[None, ('early', 5), ('term', 4), ('early', 5), ('none',), None, ('form',)]
"""

STAGE_2 = """
>>> from loopworth.halves import all_halves, arcs_of, count, half_along, half_by, half_number, half_of, halves, is_half, loose, mirrored, near, next_half, partner, path, points
>>> HALF = "(())|()"
>>> [is_half(HALF), is_half("(|)"), is_half(")("), is_half(""), is_half("((")]
[True, False, False, True, False]
>>> [points(HALF), loose(HALF), partner(HALF, 0), partner(HALF, 4), arcs_of(HALF), near(HALF), mirrored(HALF)]
[7, 1, 3, None, ((0, 3), (1, 2), (5, 6)), (1, 5), '()|(())']
>>> [halves(4, 2), halves(4, 0), halves(3, 0), halves(0, 0), all_halves(2)]
[['()||', '|()|', '||()'], ['(())', '()()'], [], [''], ['()', '||']]
>>> [count(4, 2), count(4, 1), count(4, 6), count(0, 0), count(60, 0)]
[3, 0, 0, 1, 3814986502092304]
>>> [path(HALF), half_along(path(HALF)), half_along((0, 1, 2, 1, 2)), half_by(4, ((2, 3),))]
[(0, 1, 2, 1, 0, 1, 2, 1), '(())|()', '|()|', '||()']
>>> [half_number("|()|"), half_of(4, 2, 1), next_half("|()|"), next_half("||()"), half_of(8, 0, 0)]
[1, '|()|', '||()', None, '(((())))']
"""

STAGE_3 = """
>>> from loopworth.pictures import arc, are_alike, fewest_length, flipped, glue, letters_of, of_word, pictures, product, straight, turned
>>> [straight(2), arc(3, 1), len(pictures(4)), pictures(2), turned(("()|", "|()")), flipped(("()|", "()|"))]
[('||', '||'), ('|()', '|()'), 14, [('()', '()'), ('||', '||')], ('|()', '()|'), ('|()', '|()')]
>>> [glue("()()", "(())"), glue("()()", "()()"), glue("()|", "|()"), glue("()||", "||()"), glue("|||", "|()")]
[(1, 0), (2, 0), (0, 1), (0, 0), (0, 1)]
>>> [product(arc(3, 0), arc(3, 0)), product(arc(3, 0), arc(3, 1)), of_word(3, (0, 1, 0)), of_word(4, (1, 0, 2, 1))]
[(1, ('()|', '()|')), (0, ('()|', '|()')), (0, ('()|', '()|')), (0, ('(())', '(())'))]
>>> [are_alike(4, (0, 2), (2, 0)), are_alike(4, (0, 0), (0,)), letters_of(("(())", "(())")), fewest_length(("(())", "(())"))]
[True, False, (1, 2, 1), 4]
"""

STAGE_4 = """
>>> from loopworth.rooms import table, value, values_of
>>> [value(7, 3, "()()", "()()"), value(7, 3, "()()", "(())"), value(7, 3, "()||", "|()|"), value(7, 3, "()||", "||()")]
[2, 3, 1, 0]
>>> [value(0, (1, 2), "()", "()"), value(5, 0, "", ""), value(5, 0, "()", "()"), value(5, 2, "||", "()")]
[(1, 2), 1, 0, 0]
>>> [table(2, 1, 4, 2), table(2, 1, 4, 0)]
[((1, 1, 0), (1, 1, 1), (0, 1, 1)), ((1, 1), (1, 1))]
>>> [table(0, (2, 1), 2, 0), table(3, 1, 0, 0), values_of(5, 2, 4, 2, (1, 0, 3))]
[(((2, 1),),), ((1,),), (2, 4, 1)]

>>> from loopworth.ranks import determinant, judge_nought, nought_basis, rank_of, reduced, table_rank
>>> [rank_of(5, [(1, 2), (2, 4)]), reduced(5, [(2, 4, 1), (1, 2, 0)]), rank_of(5, []), reduced(3, [(0, 0)])]
[1, [(1, 2, 0), (0, 0, 1)], 0, []]
>>> [determinant(7, [(1, 2), (3, 4)]), determinant(2, ()), determinant(0, [((1, 2), (0, 1)), ((3, 1), (2, 1))])]
[5, 1, (1, 1)]
>>> [table_rank(2, 1, 4, 2), table_rank(2, 1, 4, 0), table_rank(3, 0, 2, 0), table_rank(0, (1, 1), 4, 0)]
[3, 1, 0, 1]
>>> [nought_basis(2, 1, 4, 0), nought_basis(2, 1, 4, 2), judge_nought(2, 1, 4, 0, (1, 1)), judge_nought(2, 1, 4, 0, (1, 0))]
[[(1, 1)], [], None, ('value', 0, 1)]
>>> [judge_nought(3, 1, 4, 0, (1, 1)), judge_nought(3, 1, 4, 0, [1, 2]), judge_nought(3, 1, 4, 0, (1, True))]
[('value', 0, 2), ('form',), ('form',)]
"""

STAGE_5 = """
>>> from loopworth.digits import digits, holds, next_over, of_digits, support
>>> [digits(2, 3, 5), digits(2, 3, 6), digits(0, 3, 100), digits(0, None, 7), of_digits(2, 3, (2, 1))]
[(2, 1), (0, 0, 1), (1, 33), (7,), 5]
>>> [support(2, 3, 5), support(2, 3, 3), support(0, 3, 100), support(3, 2, 23)]
[(1, 5), (3,), (98, 100), (13, 15, 21, 23)]
>>> [holds(2, 3, 0, 4), holds(2, 3, 2, 4), next_over(2, 3, 0), next_over(0, 3, 2), next_over(2, 3, 2), next_over(0, None, 4)]
[True, False, 4, None, 8, None]

>>> from loopworth.pieces import all_kept, keeps_all, lost, pieces_of, shares_of, size, sizes
>>> [sizes(2, 1, 4), size(2, 1, 4, 0), size(2, 1, 4, 1), pieces_of(2, 1, 4, 0), lost(2, 1, 4), shares_of(2, 1, 4, 4)]
[[(4, 1), (2, 3), (0, 1)], 1, 0, (0, 4), (0,), (0, 4)]
>>> [sizes(2, 0, 2), pieces_of(2, 0, 2, 0), keeps_all(2, 1, 4, 2), keeps_all(2, 1, 10 ** 20, 2), all_kept(5, 2, 3), all_kept(5, 2, 8)]
[[(2, 1)], (2,), True, False, True, False]
"""

STAGE_6 = """
>>> from loopworth.elements import added, element, is_element, product_of, scaled, share, turned_element, word_element
>>> ONE, CUP, UP, DOWN = ("||", "||"), ("()", "()"), ("()|", "|()"), ("|()", "()|")
>>> [element(5, [(ONE, 3), (CUP, 2), (ONE, 2)]), is_element(5, 2, ((CUP, 2),)), is_element(5, 2, ((CUP, 0),))]
[((('()', '()'), 2),), True, False]
>>> [share(5, ((CUP, 2),), ONE), added(5, ((CUP, 2),), ((CUP, 3), (ONE, 1))), scaled(5, ((CUP, 2),), 4)]
[0, ((('||', '||'), 1),), ((('()', '()'), 3),)]
>>> [product_of(5, 3, ((CUP, 2),), ((CUP, 1), (ONE, 1))), word_element(5, 3, 3, (0, 1)), word_element(5, 0, 3, (0, 0))]
[((('()', '()'), 3),), ((('()|', '|()'), 1),), ()]
>>> turned_element(((UP, 2),)) == ((DOWN, 2),)
True

>>> from loopworth.middles import bar, has_middle, judge_bar, judge_middle, middle
>>> ONE = ("||", "||")
>>> [has_middle(2, 1, 2), has_middle(2, 1, 4), has_middle(2, 1, 6 * 2 ** 70 - 1), has_middle(0, (1, 1), 3), has_middle(0, (2, 1), 99)]
[True, False, True, False, True]
>>> [middle(2, 1, 2), middle(0, (2, 1), 2)]
[((('()', '()'), 1), (('||', '||'), 1)), ((('()', '()'), (-1, 2)), (('||', '||'), (1, 1)))]
>>> [number for picture, number in middle(0, (2, 1), 3)]
[(-2, 3), (1, 3), (1, 3), (-2, 3), (1, 1)]
>>> middle(0, (0, 1), 3)
((('()|', '|()'), (-1, 1)), (('|()', '()|'), (-1, 1)), (('|||', '|||'), (1, 1)))
>>> [has_middle(2, 1, 4), has_middle(2, 1, 5), judge_middle(0, (2, 1), 2, ()), judge_bar(0, (2, 1), 2, (0, ((0, 1),)))]
[False, True, ('straight', (0, 1)), ('nought',)]
>>> [bar(2, 1, 4), bar(2, 0, 2), bar(0, (1, 1), 3)]
[(0, (1, 1)), (0, (1,)), (1, ((1, 1), (-1, 1)))]
>>> [judge_middle(2, 1, 2, ((ONE, 1),)), judge_middle(2, 1, 2, ()), judge_middle(2, 1, 2, None), judge_middle(5, 1, 1, ((("|", "|"), 1),))]
[('arc', 0, 'above'), ('straight', 0), ('form',), None]
>>> [judge_bar(2, 1, 4, (0, (1, 1))), judge_bar(2, 1, 4, (0, (1, 0))), judge_bar(2, 1, 4, (0, (0, 0))), judge_bar(2, 1, 4, (1, (1,)))]
[None, ('arc', 0), ('nought',), ('form',)]
"""

STAGES = (STAGE_1, STAGE_2, STAGE_3, STAGE_4, STAGE_5, STAGE_6)


def steps(text):
    """The pairs of what is entered and what is printed behind it, None for nothing."""
    found = []
    for line in text.splitlines():
        if line.startswith(">>> "):
            found.append((line[4:], None))
        elif line:
            found[-1] = (found[-1][0], line)
    return found


class Examples(unittest.TestCase):
    def test_they_answer_as_printed(self):
        for stage in STAGES:
            names = {}
            for entered, printed in steps(stage):
                if printed is None:
                    exec(entered, names)
                else:
                    with self.subTest(entered=entered):
                        self.assertEqual(repr(eval(entered, names)), printed)

    def test_there_are_some(self):
        for stage in STAGES:
            self.assertTrue([entered for entered, printed in steps(stage) if printed is not None])
