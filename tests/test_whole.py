"""What the document promises across its parts."""

import unittest

from loopworth.acting import acted, closure, unit_of
from loopworth.console import Console
from loopworth.elements import word_element
from loopworth.fields import number, plus, times
from loopworth.folding import fold, pictures_by_folds
from loopworth.halves import count, halves
from loopworth.house import House, ask
from loopworth.left import left_halves
from loopworth.middles import bar, has_middle, middle
from loopworth.pictures import arc, fewest, of_word, pictures, straight
from loopworth.pieces import keeps_all, size, sizes
from loopworth.ranks import judge_nought, table_rank
from loopworth.rooms import table
from loopworth.texts import deed_text, element_text, read_deed, thing_text
from loopworth.traces import keeps_round, round_rank, round_table, trace
from loopworth.worths import worth_row

WORTHS = [(p, d) for p in (2, 3, 5, 7) for d in range(p)] + [(0, d) for d in ((0, 1), (1, 1), (-1, 1), (2, 1), (1, 2))]


class Middles(unittest.TestCase):
    def test_nought_in_each_room_of_less_loose_ends(self):
        for p, d in WORTHS:
            for n in range(1, 5):
                if has_middle(p, d, n):
                    for k in range(n % 2, n + 1, 2):
                        for half in halves(n, k):
                            unit = unit_of(p, n, k, half)
                            come = (number(p, 0),) * len(unit)
                            for picture, x in middle(p, d, n):
                                row = acted(p, d, n, k, picture, unit)
                                come = tuple(plus(p, y, times(p, x, z)) for y, z in zip(come, row))
                            self.assertEqual(come, unit if k == n else (number(p, 0),) * len(unit))

    def test_their_traces_are_terms(self):
        for p, d in WORTHS:
            for n in range(1, 6):
                if has_middle(p, d, n):
                    self.assertEqual(trace(p, d, middle(p, d, n)), worth_row(p, d, n)[n])

    def test_bars_are_nought_rows_and_closed(self):
        for p, d in WORTHS:
            for n in range(2, 7):
                if not has_middle(p, d, n):
                    k, row = bar(p, d, n)
                    self.assertIsNone(judge_nought(p, d, n, k, row))
                    self.assertEqual(closure(p, d, n, k, [row]), [row])
                    for i in range(n - 1):
                        self.assertEqual(acted(p, d, n, k, arc(n, i), row), (number(p, 0),) * len(row))


class Ranks(unittest.TestCase):
    def test_sizes_ranks_and_what_is_left(self):
        for p, d in WORTHS:
            for n in range(7):
                for k in range(n % 2, n + 1, 2):
                    many = size(p, d, n, k)
                    self.assertEqual([table_rank(p, d, n, k), len(left_halves(p, d, n, k))], [many, many])
                    self.assertIs(keeps_all(p, d, n, k), many == count(n, k))

    def test_closed_round(self):
        for p, d in WORTHS:
            for n in range(4):
                self.assertEqual(round_table(p, d, n), table(p, d, 2 * n, 0))
                self.assertEqual(round_rank(p, d, n), dict(sizes(p, d, 2 * n)).get(0, 0))
                self.assertIs(keeps_round(p, d, n), keeps_all(p, d, 2 * n, 0))
                self.assertEqual([fold(picture) for picture in pictures_by_folds(n)], halves(2 * n, 0))


class Houses(unittest.TestCase):
    def test_a_word_for_each_picture(self):
        for n in (2, 3, 4):
            for picture in pictures(n):
                desk = Console()
                word = fewest(picture)
                self.assertEqual(of_word(n, word), (0, picture))
                letters = ".".join(str(i) for i in word) or "-"
                told = [desk.say(line) for line in ("word w %d %s" % (n, letters), "drawn p w", "led e w 0 1/2", "led f p 0 1/2")]
                self.assertEqual(told, ["1", "2", "3", "4"])
                house = desk.house()
                self.assertEqual(house.shelf()["p"], ("picture", picture))
                self.assertIs(ask(house.shelf(), ("alike", "e", "f")), True)
                text = element_text(word_element(0, (1, 2), n, word))
                self.assertEqual(desk.say("show e"), "element 0 %d %s" % (n, text))

    def test_the_log_told_again(self):
        desk, other = Console(), House()
        for line in ("room a 2 1 4 0", "word w 3 0.1.0", "led e w 5 2", "turn t e", "times x e t 3", "scaled y x 4", "plus z y x",
                     "mirror m z", "undo", "picture p ()| |()", "led q p 5 0", "away w"):
            desk.say(line)
        for deed in desk.house().log():
            self.assertEqual(read_deed(deed_text(deed)), deed)
            other.do(read_deed(deed_text(deed)))
        self.assertEqual(other.shelf(), desk.house().shelf())
        self.assertEqual(
            desk.say("show"), " ".join(sorted(other.shelf()))
        )
        for name, thing in other.shelf().items():
            self.assertEqual(desk.say("show " + name), thing_text(thing))

    def test_questions_and_the_functions_they_ask(self):
        for p, d in WORTHS:
            for n in range(1, 6):
                for k in range(n % 2, n + 1, 2):
                    house = House()
                    house.do(("room", "a", p, d, n, k))
                    self.assertEqual(house.keep("x", ("rank", "a")), table_rank(p, d, n, k))
                    self.assertIs(house.keep("y", ("middle", "a")), has_middle(p, d, n))
                    house.do(("room", "a", p, d, n, n))
                    found = house.today("x")
                    self.assertEqual(found, ("same",) if table_rank(p, d, n, k) == 1 else ("else", 1))

    def test_straight_things(self):
        house = House()
        house.do(("picture", "a", "||", "||"))
        house.do(("led", "e", "a", 7, 3))
        self.assertEqual(house.keep("x", ("round", "e", 3)), trace(7, 3, ((straight(2), 1),)))
