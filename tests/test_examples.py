"""The examples of the document's interface answer as printed."""

import unittest

from loopworth.errors import LoopError

STAGE_1 = """
>>> from loopworth.fields import is_field, is_number, minus, number, over, plus, times
>>> [is_field(7), is_field(0), is_field(17), is_field(True), is_number(5, 4), is_number(5, 5), is_number(0, (2, 4)), is_number(0, (0, 1)), is_number(0, 1), is_number(2, True)]
[True, True, False, False, True, False, False, True, False, False]
>>> [number(5, -1), number(0, -3), plus(5, 3, 4), minus(5, 1, 3), times(7, 3, 5), over(7, 1, 3), plus(0, (1, 2), (1, 6)), minus(0, (1, 2), (1, 2)), over(0, (1, 2), (-3, 4))]
[4, (-3, 1), 2, 3, 1, 5, (2, 3), (0, 1), (-2, 3)]

>>> from loopworth.worths import judge_length, length, lengths_of, term, worth_row, worths_of
>>> [worth_row(5, 2, 5), worth_row(2, 1, 3), worth_row(0, (1, 2), 2), term(5, 2, 5), term(7, 0, 10 ** 30)]
[[1, 2, 3, 4, 0, 1], [1, 1, 0, 1], [(1, 1), (1, 2), (-3, 4)], 1, 1]
>>> [length(5, 2), length(2, 1), length(0, (1, 1)), length(0, (1, 2)), lengths_of(5), worths_of(5, 3), worths_of(0, 3), worths_of(7, 40)]
[5, 3, 3, None, [2, 3, 5, 5, 3], (1, 4), ((-1, 1), (1, 1)), ()]
>>> [judge_length(5, 2, 5), judge_length(5, 2, None), judge_length(5, 2, 4), judge_length(5, 2, 6), judge_length(0, (2, 1), 9), judge_length(0, (1, 2), None), judge_length(5, 2, "5")]
[None, ('early', 5), ('term', 4), ('early', 5), ('none',), None, ('form',)]
"""

STAGE_2 = """
>>> from loopworth.halves import all_halves, arcs_of, count, half_along, half_by, half_number, half_of, halves, is_half, loose, mirrored, near, next_half, partner, path, points
>>> HALF = "(())|()"
>>> [is_half(HALF), is_half("(|)"), is_half(")("), is_half(""), is_half("((")]
[True, False, False, True, False]
>>> [points(HALF), loose(HALF), partner(HALF, 0), partner(HALF, 4), arcs_of(HALF), near(HALF), mirrored(HALF)]
[7, 1, 3, None, ((0, 3), (1, 2), (5, 6)), (1, 5), '()|(())']
>>> [halves(4, 2), halves(4, 0), halves(3, 0), halves(0, 0), all_halves(2)]
[['()||', '|()|', '||()'], ['(())', '()()'], [], [''], ['()', '||']]
>>> [count(4, 2), count(4, 1), count(4, 6), count(0, 0), count(60, 0)]
[3, 0, 0, 1, 3814986502092304]
>>> [path(HALF), half_along(path(HALF)), half_along((0, 1, 2, 1, 2)), half_by(4, ((2, 3),))]
[(0, 1, 2, 1, 0, 1, 2, 1), '(())|()', '|()|', '||()']
>>> [half_number("|()|"), half_of(4, 2, 1), next_half("|()|"), next_half("||()"), half_of(8, 0, 0)]
[1, '|()|', '||()', None, '(((())))']
"""

STAGE_3 = """
>>> from loopworth.pictures import arc, are_alike, fewest_length, flipped, glue, letters_of, of_word, pictures, product, straight, turned
>>> [straight(2), arc(3, 1), len(pictures(4)), pictures(2), turned(("()|", "|()")), flipped(("()|", "()|"))]
[('||', '||'), ('|()', '|()'), 14, [('()', '()'), ('||', '||')], ('|()', '()|'), ('|()', '|()')]
>>> [glue("()()", "(())"), glue("()()", "()()"), glue("()|", "|()"), glue("()||", "||()"), glue("|||", "|()")]
[(1, 0), (2, 0), (0, 1), (0, 0), (0, 1)]
>>> [product(arc(3, 0), arc(3, 0)), product(arc(3, 0), arc(3, 1)), of_word(3, (0, 1, 0)), of_word(4, (1, 0, 2, 1))]
[(1, ('()|', '()|')), (0, ('()|', '|()')), (0, ('()|', '()|')), (0, ('(())', '(())'))]
>>> [are_alike(4, (0, 2), (2, 0)), are_alike(4, (0, 0), (0,)), letters_of(("(())", "(())")), fewest_length(("(())", "(())"))]
[True, False, (1, 2, 1), 4]
"""

STAGE_4 = """
>>> from loopworth.rooms import table, value, values_of
>>> [value(7, 3, "()()", "()()"), value(7, 3, "()()", "(())"), value(7, 3, "()||", "|()|"), value(7, 3, "()||", "||()")]
[2, 3, 1, 0]
>>> [value(0, (1, 2), "()", "()"), value(5, 0, "", ""), value(5, 0, "()", "()"), value(5, 2, "||", "()")]
[(1, 2), 1, 0, 0]
>>> [table(2, 1, 4, 2), table(2, 1, 4, 0)]
[((1, 1, 0), (1, 1, 1), (0, 1, 1)), ((1, 1), (1, 1))]
>>> [table(0, (2, 1), 2, 0), table(3, 1, 0, 0), values_of(5, 2, 4, 2, (1, 0, 3))]
[(((2, 1),),), ((1,),), (2, 4, 1)]

>>> from loopworth.ranks import determinant, judge_nought, nought_basis, rank_of, reduced, table_rank
>>> [rank_of(5, [(1, 2), (2, 4)]), reduced(5, [(2, 4, 1), (1, 2, 0)]), rank_of(5, []), reduced(3, [(0, 0)])]
[1, [(1, 2, 0), (0, 0, 1)], 0, []]
>>> [determinant(7, [(1, 2), (3, 4)]), determinant(2, ()), determinant(0, [((1, 2), (0, 1)), ((3, 1), (2, 1))])]
[5, 1, (1, 1)]
>>> [table_rank(2, 1, 4, 2), table_rank(2, 1, 4, 0), table_rank(3, 0, 2, 0), table_rank(0, (1, 1), 4, 0)]
[3, 1, 0, 1]
>>> [nought_basis(2, 1, 4, 0), nought_basis(2, 1, 4, 2), judge_nought(2, 1, 4, 0, (1, 1)), judge_nought(2, 1, 4, 0, (1, 0))]
[[(1, 1)], [], None, ('value', 0, 1)]
>>> [judge_nought(3, 1, 4, 0, (1, 1)), judge_nought(3, 1, 4, 0, [1, 2]), judge_nought(3, 1, 4, 0, (1, True))]
[('value', 0, 2), ('form',), ('form',)]
"""

STAGE_5 = """
>>> from loopworth.digits import digits, holds, next_over, of_digits, support
>>> [digits(2, 3, 5), digits(2, 3, 6), digits(0, 3, 100), digits(0, None, 7), of_digits(2, 3, (2, 1))]
[(2, 1), (0, 0, 1), (1, 33), (7,), 5]
>>> [support(2, 3, 5), support(2, 3, 3), support(0, 3, 100), support(3, 2, 23)]
[(1, 5), (3,), (98, 100), (13, 15, 21, 23)]
>>> [holds(2, 3, 0, 4), holds(2, 3, 2, 4), next_over(2, 3, 0), next_over(0, 3, 2), next_over(2, 3, 2), next_over(0, None, 4)]
[True, False, 4, None, 8, None]

>>> from loopworth.pieces import all_kept, keeps_all, lost, pieces_of, shares_of, size, sizes
>>> [sizes(2, 1, 4), size(2, 1, 4, 0), size(2, 1, 4, 1), pieces_of(2, 1, 4, 0), lost(2, 1, 4), shares_of(2, 1, 4, 4)]
[[(4, 1), (2, 3), (0, 1)], 1, 0, (0, 4), (0,), (0, 4)]
>>> [sizes(2, 0, 2), pieces_of(2, 0, 2, 0), keeps_all(2, 1, 4, 2), keeps_all(2, 1, 10 ** 20, 2), all_kept(5, 2, 3), all_kept(5, 2, 8)]
[[(2, 1)], (2,), True, False, True, False]
"""

STAGE_6 = """
>>> from loopworth.elements import added, element, is_element, product_of, scaled, share, turned_element, word_element
>>> ONE, CUP, UP, DOWN = ("||", "||"), ("()", "()"), ("()|", "|()"), ("|()", "()|")
>>> [element(5, [(ONE, 3), (CUP, 2), (ONE, 2)]), is_element(5, 2, ((CUP, 2),)), is_element(5, 2, ((CUP, 0),))]
[((('()', '()'), 2),), True, False]
>>> [share(5, ((CUP, 2),), ONE), added(5, ((CUP, 2),), ((CUP, 3), (ONE, 1))), scaled(5, ((CUP, 2),), 4)]
[0, ((('||', '||'), 1),), ((('()', '()'), 3),)]
>>> [product_of(5, 3, ((CUP, 2),), ((CUP, 1), (ONE, 1))), word_element(5, 3, 3, (0, 1)), word_element(5, 0, 3, (0, 0))]
[((('()', '()'), 3),), ((('()|', '|()'), 1),), ()]
>>> turned_element(((UP, 2),)) == ((DOWN, 2),)
True

>>> from loopworth.middles import bar, has_middle, judge_bar, judge_middle, middle
>>> ONE = ("||", "||")
>>> [has_middle(2, 1, 2), has_middle(2, 1, 4), has_middle(2, 1, 6 * 2 ** 70 - 1), has_middle(0, (1, 1), 3), has_middle(0, (2, 1), 99)]
[True, False, True, False, True]
>>> [middle(2, 1, 2), middle(0, (2, 1), 2)]
[((('()', '()'), 1), (('||', '||'), 1)), ((('()', '()'), (-1, 2)), (('||', '||'), (1, 1)))]
>>> [number for picture, number in middle(0, (2, 1), 3)]
[(-2, 3), (1, 3), (1, 3), (-2, 3), (1, 1)]
>>> middle(0, (0, 1), 3)
((('()|', '|()'), (-1, 1)), (('|()', '()|'), (-1, 1)), (('|||', '|||'), (1, 1)))
>>> [has_middle(2, 1, 4), has_middle(2, 1, 5), judge_middle(0, (2, 1), 2, ()), judge_bar(0, (2, 1), 2, (0, ((0, 1),)))]
[False, True, ('straight', (0, 1)), ('nought',)]
>>> [bar(2, 1, 4), bar(2, 0, 2), bar(0, (1, 1), 3)]
[(0, (1, 1)), (0, (1,)), (1, ((1, 1), (-1, 1)))]
>>> [judge_middle(2, 1, 2, ((ONE, 1),)), judge_middle(2, 1, 2, ()), judge_middle(2, 1, 2, None), judge_middle(5, 1, 1, ((("|", "|"), 1),))]
[('arc', 0, 'above'), ('straight', 0), ('form',), None]
>>> [judge_bar(2, 1, 4, (0, (1, 1))), judge_bar(2, 1, 4, (0, (1, 0))), judge_bar(2, 1, 4, (0, (0, 0))), judge_bar(2, 1, 4, (1, (1,)))]
[None, ('arc', 0), ('nought',), ('form',)]
"""

STAGE_7 = """
>>> from loopworth.acting import acted, brings, closure, is_closed, is_vector, judge_way, matrix_of, meet, under, unit_of, way_to
>>> [is_vector(7, 4, 2, (1, 2, 3)), is_vector(7, 4, 2, [1, 2, 3]), unit_of(7, 4, 2, "|()|"), unit_of(0, 2, 0, "()")]
[True, False, (0, 1, 0), ((1, 1),)]
>>> ARC, MIDDLE = ("()||", "()||"), ("|()|", "|()|")
>>> [under(ARC, "()||"), under(MIDDLE, "()||"), under(("||()", "||()"), "()||"), under(("(())", "()()"), "()||")]
[(1, '()||'), (0, '|()|'), (0, '()()'), (1, '(())')]
>>> [acted(7, 3, 4, 2, ARC, (1, 2, 3)), acted(7, 3, 4, 2, MIDDLE, (1, 2, 3)), meet(7, 3, 4, 2, (1, 2, 3), (1, 0, 0))]
[(5, 0, 0), (0, 3, 0), 5]
>>> [matrix_of(7, 3, 4, 2, MIDDLE), closure(2, 1, 4, 0, [(1, 1)]), closure(2, 1, 4, 0, [(0, 1)]), closure(2, 1, 4, 0, [])]
[((0, 1, 0), (0, 3, 0), (0, 1, 0)), [(1, 1)], [(1, 0), (0, 1)], []]
>>> [is_closed(2, 1, 4, 0, [(1, 1)]), is_closed(2, 1, 4, 0, [(0, 1)]), brings(2, 1, 4, 0, (1, 1)), brings(2, 1, 4, 0, (0, 1))]
[True, False, (), ('(())', 1)]
>>> [way_to(2, 1, 4, 0, (1, 1), "()()"), judge_way(2, 1, 4, 0, (0, 1), "()()", way_to(2, 1, 4, 0, (0, 1), "()()"))]
[None, None]
>>> [judge_way(2, 1, 4, 0, (0, 1), "()()", None), judge_way(2, 1, 4, 0, (0, 1), "()()", (("(())", "(())"), 1)), judge_way(2, 1, 4, 0, (0, 1), "()()", 5)]
[('there', '(())', 1), ('comes', (1, 0)), ('form',)]

>>> from loopworth.left import are_left_alike, left_halves, left_matrix, left_table, rest_of
>>> [left_halves(2, 0, 4, 2), left_table(2, 0, 4, 2), rest_of(2, 0, 4, 2, (1, 1, 0)), are_left_alike(2, 0, 4, 2, (1, 1, 0), (0, 1, 1))]
[['|()|', '||()'], ((0, 1), (1, 0)), (0, 1, 1), True]
>>> [left_matrix(2, 0, 4, 2, ("()||", "()||")), left_matrix(2, 0, 4, 2, ("|()|", "|()|")), left_halves(3, 0, 2, 0)]
[((0, 1), (0, 0)), ((0, 0), (1, 0)), []]
"""

STAGE_8 = """
>>> from loopworth.less import cut, falls_apart, grown, join, put_together, rooms_of, split, times, times_down
>>> [cut("()||"), cut("|()|"), cut("||()"), cut("(())"), cut("|"), join("||", True), join("|()", True), join("()|", False)]
[('()|', False), ('|()', False), ('|||', True), ('|()', True), ('', False), '|()', '(())', '()||']
>>> [grown(("()|", "|()")), split(7, 4, 2, (1, 2, 3)), split(7, 2, 0, (5,)), put_together(7, 4, 2, (1, 2), (3,))]
[('()||', '|()|'), ((1, 2), (3,)), ((), (5,)), (1, 2, 3)]
>>> [rooms_of(2, 1, 4, 0), rooms_of(2, 1, 6, 0), rooms_of(2, 0, 4, 2), rooms_of(2, 0, 4, 0), rooms_of(0, (2, 1), 4, 2)]
[[(0, 1), (4, -1)], [(0, 1), (4, -1), (6, 1)], [(2, 1), (4, -1)], [], [(2, 1)]]
>>> [times(2, 1, 6, 2), times(0, (2, 1), 6, 2), times(2, 0, 4, 2), times(2, 1, 5, 5), times_down(2, 1, 6, 2, 2), times_down(2, 1, 6, 2, 6)]
[[(1, 1), (3, 2)], [(1, 1), (3, 1)], [(1, 1)], [(4, 1)], [(0, 1), (2, 2), (4, 2)], [(0, 9)]]
>>> [falls_apart(2, 1, 6, 2), falls_apart(2, 0, 4, 2)]
[True, False]
"""

STAGE_9 = """
>>> from loopworth.folding import closed_last, fold, loops_round, pictures_by_folds, unfold
>>> [fold(("||", "||")), fold(("()", "()")), fold(("|()", "()|")), unfold("(())()"), unfold("")]
['(())', '()()', '(())()', ('|()', '()|'), ('', '')]
>>> pictures_by_folds(3)
[('|||', '|||'), ('|()', '|()'), ('|()', '()|'), ('()|', '|()'), ('()|', '()|')]
>>> [loops_round(("||", "||")), loops_round(("()", "()")), loops_round(("|()", "|()")), loops_round(("|()", "()|")), loops_round(("", ""))]
[2, 1, 2, 1, 0]
>>> [closed_last(("||", "||")), closed_last(("()", "()")), closed_last(("|()", "()|")), closed_last(("|()", "|()"))]
[(1, ('|', '|')), (0, ('|', '|')), (0, ('()', '()')), (0, ('||', '||'))]

>>> from loopworth.traces import answers, closed_element, judge_answers, judge_silent, keeps_round, round_rank, round_table, round_value, trace, trace_row
>>> ARC, TWO = ("()", "()"), ("||", "||")
>>> SOME = ((ARC, 2), (TWO, 1))
>>> [trace(5, 2, SOME), trace(5, 2, ()), closed_element(5, 2, SOME), trace_row(5, 2, 2, SOME, 2)]
[3, 0, ((('|', '|'), 4),), [4, 3, 3]]
>>> [round_value(5, 2, ARC, ARC), round_value(5, 2, ARC, TWO), round_table(0, (3, 1), 2), round_table(2, 1, 2)]
[4, 2, (((9, 1), (3, 1)), ((3, 1), (9, 1))), ((1, 1), (1, 1))]
>>> [round_rank(2, 1, 2), keeps_round(2, 1, 1), keeps_round(2, 1, 2), keeps_round(0, (3, 1), 10 ** 30)]
[1, True, False, True]
>>> [answers(5, 2, 1), answers(2, 1, 2), judge_silent(2, 1, 2, ((ARC, 1), (TWO, 1))), judge_silent(5, 2, 2, SOME)]
[('keeps', [((('|', '|'), 3),)]), ('loses', ((('()', '()'), 1), (('||', '||'), 1))), None, ('heard', ('||', '||'), 3)]
>>> [judge_answers(5, 2, 1, ("keeps", [((("|", "|"), 1),)])), judge_answers(2, 1, 2, ("loses", ((TWO, 1),))), judge_answers(2, 1, 2, None)]
[('value', 0, 0), ('silent', ('heard', ('||', '||'), 1)), ('form',)]
"""

STAGE_10 = """
>>> from loopworth.texts import deed_text, element_text, picture_text, read_deed, thing_text
>>> [picture_text(("()|", "|()")), element_text(((("()", "()"), 2), (("||", "||"), 1))), element_text(()), thing_text(("room", (0, (1, 2), 4, 2)))]
['()|/|()', '2*()/() + 1*||/||', '0', 'room 0 1/2 4 2']
>>> [thing_text(("word", (3, (0, 1)))), thing_text(("word", (1, ()))), thing_text(("element", (5, 2, ()))), deed_text(("led", "a", "b", 5, 3)), deed_text(("scaled", "a", "b", (-3, 1)))]
['word 3 0.1', 'word 1 -', 'element 5 2 0', 'led a b 5 3', 'scaled a b -3/1']
>>> [read_deed("room a 7 3 6 2"), read_deed("word w 4 0.1.2"), read_deed("picture p ()| |()")]
[('room', 'a', 7, 3, 6, 2), ('word', 'w', 4, (0, 1, 2)), ('picture', 'p', '()|', '|()')]
>>> read_deed("room a 7 9 6 2")
raises BadText(0)

>>> from loopworth.house import House, after, ask, is_thing
>>> house = House()
>>> [house.do(("room", "a", 2, 1, 4, 0)), house.do(("room", "b", 5, 2, 4, 0)), house.do(("word", "w", 2, (0, 0))), house.do(("led", "e", "w", 5, 2)), house.shelf()["e"]]
[1, 2, 3, 4, ('element', (5, 2, ((('()', '()'), 2),)))]
>>> [ask(house.shelf(), ("rank", "a")), ask(house.shelf(), ("pieces", "a")), ask(house.shelf(), ("middle", "a")), ask(house.shelf(), ("change", "a", "b")), house.keep("x", ("rank", "a"))]
[1, (0, 4), False, (1, 2, (4,), ()), 1]
>>> [house.do(("room", "a", 5, 2, 4, 0)), house.today("x"), house.undo(), house.today("x"), is_thing(("room", (5, 2, 3, 2)))]
[5, ('else', 2), 4, ('same',), False]
>>> after({}, ("away", "a"))
raises UnknownName('a')

>>> from loopworth.console import Console
>>> desk = Console()
>>> [desk.say("room a 7 3 6 2"), desk.say("word w 3 0.1.0"), desk.say("drawn p w"), desk.say("show p"), desk.say("show"), desk.say("undo"), desk.say("show p"), desk.say("rom a")]
['1', '2', '3', 'picture ()|/()|', 'a p w', '2', 'refused', 'what']
"""

STAGES = (STAGE_1, STAGE_2, STAGE_3, STAGE_4, STAGE_5, STAGE_6, STAGE_7, STAGE_8, STAGE_9, STAGE_10)


def steps(text):
    """The pairs of what is entered and what is printed behind it, None for nothing."""
    found = []
    for line in text.splitlines():
        if line.startswith(">>> "):
            found.append((line[4:], None))
        elif line:
            found[-1] = (found[-1][0], line)
    return found


def printed_by(entered, names):
    """What is printed for an expression, also where it raises an error of the package."""
    try:
        return repr(eval(entered, names))
    except LoopError as error:
        return "raises %s(%s)" % (type(error).__name__, ", ".join(repr(told) for told in vars(error).values()))


class Examples(unittest.TestCase):
    def test_they_answer_as_printed(self):
        for stage in STAGES:
            names = {}
            for entered, printed in steps(stage):
                if printed is None:
                    exec(entered, names)
                else:
                    with self.subTest(entered=entered):
                        self.assertEqual(printed_by(entered, names), printed)

    def test_there_are_some(self):
        for stage in STAGES:
            self.assertTrue([entered for entered, printed in steps(stage) if printed is not None])
