"""loopworth.console: point [10.6], to the limits of [10.7]."""

import random
import unittest

from loopworth.console import Console
from loopworth.errors import LoopError
from loopworth.house import House
from loopworth.texts import deed_text, thing_text
from tests import house_by_hand
from tests.odd_values import any_values, house_like
from tests.test_house import some_deed
from tests.test_texts import DEEDS, WRONG

LINES = ("undo", "redo", "show", "show a", "show b", "show w")


class Say(unittest.TestCase):
    def test_deeds(self):
        desk = Console()
        told = [desk.say(line) for line in ("word w 3 0.1.0", "turn a w", "away w", "word w 2 0", "room r 0 1/2 60 0")]
        self.assertEqual(told, ["1", "2", "3", "4", "5"])
        self.assertEqual(desk.say("show"), "a r w")
        self.assertEqual([desk.say("show " + name) for name in "arw"], ["word 3 0.1.0", "room 0 1/2 60 0", "word 2 0"])

    def test_undo_and_redo_at_both_ends(self):
        desk = Console()
        self.assertEqual([desk.say("undo"), desk.say("redo"), desk.say("show")], ["refused", "refused", ""])
        self.assertEqual([desk.say("word a 1 -"), desk.say("word b 1 -")], ["1", "2"])
        self.assertEqual([desk.say("redo"), desk.say("undo"), desk.say("show"), desk.say("redo"), desk.say("show")],
                         ["refused", "1", "a", "2", "a b"])
        self.assertEqual([desk.say("undo"), desk.say("undo"), desk.say("undo"), desk.say("show")], ["1", "0", "refused", ""])
        self.assertEqual([desk.say("word c 1 -"), desk.say("redo"), desk.say("show")], ["1", "refused", "c"])

    def test_refused(self):
        desk = Console()
        desk.say("word w 3 0.1")
        for line in ("turn a b", "away a", "room a 7 3 6 3", "room a 7 3 2 4", "word a 9 -", "word a 3 2", "picture a () ||",
                     "plus a w w", "led a w 0 1/1 1", "after a w b", "show a", "show word", "show undo", "show abcdefgh", "redo"):
            expected = "what" if line == "led a w 0 1/1 1" else "refused"
            self.assertEqual(desk.say(line), expected, line)
        self.assertEqual([desk.say("show"), desk.say("undo"), desk.say("show w")], ["w", "0", "refused"])

    def test_too_many(self):
        desk = Console()
        for name in "abcdefghijkl":
            desk.say("word " + name + " 2 " + ".".join("0" * 20))
        self.assertEqual([desk.say("word m 1 -"), desk.say("after a a b"), desk.say("show m")], ["refused"] * 3)
        self.assertEqual([desk.say("show a"), desk.say("show")], ["word 2 " + ".".join("0" * 20), "a b c d e f g h i j k l"])
        self.assertEqual(desk.say("away a"), "13")

    def test_names_that_are_words_of_the_console(self):
        desk = Console()
        self.assertEqual([desk.say("word undo 1 -"), desk.say("word show 2 0"), desk.say("show show"), desk.say("show undo")],
                         ["1", "2", "word 2 0", "word 1 -"])
        self.assertEqual([desk.say("show redo"), desk.say("show"), desk.say("undo")], ["refused", "show undo", "1"])

    def test_lines_that_are_none(self):
        desk = Console()
        desk.say("word a 1 -")
        lines = [line for line in WRONG if line not in ("undo", "redo", "show", "show a")]
        lines += ["undo ", " undo", "Undo", "undo a", "undo 1", "redo\n", "show ", "show  a", "show a b", "show A", "show a ", "show\ta",
                  "show abcdefghi", "show 1", " show", "shows", "show-", "what", "refused", "keep x", "rank a", "ask", "log", "labels"]
        for line in lines + [line.upper() for line in DEEDS]:
            self.assertEqual(desk.say(line), "what", repr(line)[:80])
        self.assertEqual([desk.say("show a"), desk.say("undo"), desk.say("redo")], ["word 1 -", "0", "1"])

    def test_any_value(self):
        desk = Console()
        for value in any_values() + house_like() + list(DEEDS.values()):
            self.assertEqual(desk.say(value), "what", repr(value)[:80])
        self.assertEqual([desk.say("show"), desk.say("undo")], ["", "refused"])

    def test_against_a_house(self):
        chance = random.Random(106)
        desk, house = Console(), House()
        seen = {}
        for _ in range(1500):
            shelf = house.shelf()
            line = chance.choice(LINES)
            if chance.random() < 0.75 and len(house.log()) < 100:
                deed = some_deed(chance, shelf)
                if deed[0] not in house_by_hand.PARTS or len(deed) != len(house_by_hand.PARTS[deed[0]]) + 1:
                    continue
                sorts = house_by_hand.PARTS[deed[0]]
                right = all(
                    house_by_hand.is_name(part) if sort in "ab" else house_by_hand.of_sort(sort, part, before)
                    for sort, part, before in zip(sorts, deed[1:], deed)
                )
                if not right:
                    continue
                line = deed_text(deed)
            if line.startswith("show "):
                expected = thing_text(shelf[line[5:]]) if line[5:] in shelf else "refused"
            elif line == "show":
                expected = " ".join(sorted(shelf))
            else:
                step = {"undo": house.undo, "redo": house.redo}.get(line)
                try:
                    expected = str(step() if step else house.do(deed))
                except LoopError:
                    expected = "refused"
            self.assertEqual(desk.say(line), expected)
            self.assertEqual([desk.house().shelf(), desk.house().log()], [house.shelf(), house.log()])
            seen[expected] = seen.get(expected, 0) + 1
        self.assertGreater(seen["refused"], 20)

    def test_texts(self):
        desk = Console()
        for line in ("word a 1 -", "undo", "redo", "show", "show a", "show b", "?", None):
            self.assertIs(type(desk.say(line)), str)


class HouseOfAConsole(unittest.TestCase):
    def test_the_same_at_each_call(self):
        desk = Console()
        self.assertIs(type(desk.house()), House)
        self.assertIs(desk.house(), desk.house())

    def test_what_is_done_to_it_counts(self):
        desk = Console()
        house = desk.house()
        house.do(("word", "a", 2, (0,)))
        self.assertEqual([desk.say("show"), desk.say("show a"), desk.say("turn b a")], ["a", "word 2 0", "2"])
        self.assertEqual(house.undo(), 1)
        self.assertEqual([desk.say("show"), desk.say("redo"), house.log()[-1]], ["a", "2", ("turn", "b", "a")])
        self.assertEqual(house.keep("x", ("alike", "a", "b")), True)
        desk.say("undo")
        self.assertEqual([house.today("x"), desk.house().labels()], [("gone",), ["x"]])

    def test_each_console_has_its_own(self):
        one, other = Console(), Console()
        one.say("word a 1 -")
        self.assertEqual([one.say("show"), other.say("show")], ["a", ""])
        self.assertIsNot(one.house(), other.house())
