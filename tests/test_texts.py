"""loopworth.texts: point [10.5], to the limits of [10.7]."""

import random
import unittest
from fractions import Fraction

from loopworth.errors import BadText
from loopworth.halves import count, half_of
from loopworth.house import House
from loopworth.middles import middle
from loopworth.pictures import pictures, straight
from loopworth.texts import deed_text, element_text, picture_text, read_deed, thing_text
from tests import by_hand, house_by_hand
from tests.odd_values import any_values, house_like

ARC, TWO = ("()", "()"), ("||", "||")
BIG = 10 ** 59
DEEDS = {
    "room a 7 3 6 2": ("room", "a", 7, 3, 6, 2),
    "room abcdefgh 0 -1/2 60 0": ("room", "abcdefgh", 0, (-1, 2), 60, 0),
    "room a 0 0/1 1 60": ("room", "a", 0, (0, 1), 1, 60),
    "room a 13 12 0 0": ("room", "a", 13, 12, 0, 0),
    "word w 4 0.1.2": ("word", "w", 4, (0, 1, 2)),
    "word w 60 -": ("word", "w", 60, ()),
    "word w 0 6": ("word", "w", 0, (6,)),
    "picture p ()| |()": ("picture", "p", "()|", "|()"),
    "picture p (()) |": ("picture", "p", "(())", "|"),
    "after a b c": ("after", "a", "b", "c"),
    "turn a a": ("turn", "a", "a"),
    "mirror undo show": ("mirror", "undo", "show"),
    "drawn a b": ("drawn", "a", "b"),
    "led a b 0 7/1": ("led", "a", "b", 0, (7, 1)),
    "led a b 2 1": ("led", "a", "b", 2, 1),
    "plus a b c": ("plus", "a", "b", "c"),
    "times a b c 12": ("times", "a", "b", "c", 12),
    "times a b c -3/2": ("times", "a", "b", "c", (-3, 2)),
    "scaled a b 0": ("scaled", "a", "b", 0),
    "scaled a b 1/3": ("scaled", "a", "b", (1, 3)),
    "away a": ("away", "a"),
}
WRONG = (
    "", " ", "room", "room a 7 9 6 2", "room a 7 3 6", "room a 7 3 6 2 2", "room a 7 3 6 2 ", " room a 7 3 6 2", "room a  7 3 6 2",
    "room A 7 3 6 2", "room abcdefghi 7 3 6 2", "room  7 3 6 2", "Room a 7 3 6 2", "room a 07 3 6 2", "room a 7 03 6 2",
    "room a 7 3 61 2", "room a 7 3 6 -2", "room a 7 3 +6 2", "room a 7 3 6 2\n", "room\ta 7 3 6 2", "room a 7 3/1 6 2", "room a 0 3 6 2",
    "room a 0 2/4 6 2", "room a 0 1/0 6 2", "room a 0 -0/1 6 2", "room a 0 0/2 6 2", "room a 0 1/-2 6 2", "room a 0 --1/2 6 2",
    "room a 0 1/2/3 6 2", "room a 0 /2 6 2", "room a 0 1/ 6 2", "room a 0 / 6 2", "room a 0 01/2 6 2", "room a 0 1/02 6 2",
    "room a 0 +1/2 6 2", "room a 4 1 6 2", "room a 0 (1, 2) 6 2", "room a 0 - 6 2", "room a 0 -/2 6 2", "room a 7 3. 6 2",
    "room a 7 3 00 0", "room a 0 1_0/3 6 2", "room a 0 -1 6 2", "room a - 1 6 2", "room a 7 3 1_0 2",
    "word w 4", "word w 4 ", "word w 4 0.1.7", "word w 4 0..1", "word w 4 .0", "word w 4 0.", "word w 4 00", "word w 4 0,1", "word w 4 --",
    "word w 4 -1", "word w 4 -.0", "word w 4 " + ".".join("0" * 21), "word w 4 ()", "word w 4 12", "word w 4 1.02",
    "picture p ()|/|()", "picture p () )(", "picture p  ", "picture p  |", "picture p ||||||||| |||||||||", "picture p (|) |", "picture p ()",
    "after a b", "after a b c d", "turn a", "turn a B", "turn 1 a", "drawn a -", "led a b 7", "led a b 7 7", "led a b c 7 1",
    "plus a b", "times a b c", "times a b c 13", "times a b c 2/2", "scaled a b", "scaled a b -1", "scaled a b 13", "scaled a b x",
    "away", "away ", "away A", "away a b", "undo", "redo", "show", "show a", "rank a", "room(a)", "('away', 'a')", "new a", "a",
    "scaled a b 1" + "0" * 60 + "/1", "scaled a b 1/1" + "0" * 60, "scaled a b -1" + "0" * 60 + "/1", "room a 0 1/1" + "0" * 5000 + " 1 1",
    "times a b c " + "9" * 5000, "room a " + "9" * 5000 + " 1 1 1", "word w " + "0" * 100 + " -",
)


def refused(value):
    """What the error of a refused text bears, None if it is not refused."""
    try:
        read_deed(value)
    except BadText as error:
        return error.place
    return None


def some_text(chance):
    """The text of a deed, with random parts of their sorts."""
    word = chance.choice(sorted(house_by_hand.PARTS))
    parts = [word]
    for sort in house_by_hand.PARTS[word]:
        if sort in "ab":
            parts.append("".join(chance.choice("abz") for _ in range(chance.randrange(1, 9))))
        elif sort == "p":
            parts.append(chance.choice((0, 2, 3, 5, 7, 11, 13)))
        elif sort in "dx":
            p = parts[-1] if sort == "d" else chance.choice((0, 0, 13))
            u, e = chance.randrange(-BIG, BIG), chance.randrange(1, 10 ** chance.choice((1, 59)))
            parts.append(chance.randrange(p) if p else by_hand.told(0, Fraction(u, e)))
        elif sort in "nk":
            parts.append(chance.randrange(61))
        elif sort == "l":
            parts.append(tuple(chance.randrange(7) for _ in range(chance.choice((0, 1, 5, 20)))))
        else:
            n = chance.randrange(1, 9)
            k = chance.randrange(n % 2, n + 1, 2)
            parts.append(half_of(n, k, chance.randrange(count(n, k))))
    return tuple(parts)


class PictureText(unittest.TestCase):
    def test_top_stroke_bottom(self):
        for n in range(5):
            for top, bottom in pictures(n):
                self.assertEqual(picture_text((top, bottom)), top + "/" + bottom)
        self.assertEqual([picture_text(("", "")), picture_text(ARC)], ["/", "()/()"])


class ElementText(unittest.TestCase):
    def test_pictures_in_order(self):
        self.assertEqual(element_text(((ARC, 2), (TWO, 1))), "2*()/() + 1*||/||")
        self.assertEqual(element_text(((ARC, (-3, 2)), (TWO, (1, 1)))), "-3/2*()/() + 1/1*||/||")
        self.assertEqual(element_text(((("", ""), 4),)), "4*/")

    def test_without_pictures(self):
        self.assertEqual(element_text(()), "0")

    def test_by_its_members(self):
        found = element_text(middle(0, (2, 1), 4))
        self.assertEqual(len(found.split(" + ")), len(middle(0, (2, 1), 4)))
        for text, (picture, (u, e)) in zip(found.split(" + "), middle(0, (2, 1), 4)):
            self.assertEqual(text, "%d/%d*%s/%s" % (u, e, *picture))

    def test_great_numbers(self):
        self.assertEqual(element_text(((ARC, (-BIG, BIG + 1)),)), "-1" + "0" * 59 + "/1" + "0" * 58 + "1*()/()")


class ThingText(unittest.TestCase):
    def test_each_kind(self):
        for thing, text in (
            (("room", (7, 3, 6, 2)), "room 7 3 6 2"), (("room", (0, (0, 1), 0, 0)), "room 0 0/1 0 0"),
            (("room", (0, (-3, 2), 60, 58)), "room 0 -3/2 60 58"), (("word", (8, (6, 0, 6))), "word 8 6.0.6"),
            (("word", (1, ())), "word 1 -"), (("word", (2, (0,))), "word 2 0"), (("picture", ("()|", "|()")), "picture ()|/|()"),
            (("picture", straight(8)), "picture ||||||||/||||||||"), (("element", (5, 2, ())), "element 5 2 0"),
            (("element", (0, 2, ((ARC, (1, 2)), (TWO, (-7, 1))))), "element 0 2 1/2*()/() + -7/1*||/||"),
            (("element", (13, 2, ((ARC, 12),))), "element 13 2 12*()/()"),
        ):
            self.assertEqual(thing_text(thing), text)


class DeedText(unittest.TestCase):
    def test_each_deed(self):
        self.assertEqual({deed[0] for deed in DEEDS.values()}, set(house_by_hand.PARTS))
        for text, deed in DEEDS.items():
            self.assertEqual(deed_text(deed), text)

    def test_deeds_of_the_log(self):
        house = House()
        for text in ("room a 0 1/2 4 2", "word w 3 0.1", "led e w 0 -1/2", "away a"):
            house.do(read_deed(text))
        self.assertEqual([deed_text(deed) for deed in house.log()], ["room a 0 1/2 4 2", "word w 3 0.1", "led e w 0 -1/2", "away a"])

    def test_deeds_that_would_be_refused(self):
        self.assertEqual(deed_text(("room", "a", 7, 3, 2, 60)), "room a 7 3 2 60")
        self.assertEqual(deed_text(("picture", "a", "()", "|||")), "picture a () |||")
        self.assertEqual(deed_text(("word", "a", 0, (6, 6))), "word a 0 6.6")


class ReadDeed(unittest.TestCase):
    def test_each_deed(self):
        for text, deed in DEEDS.items():
            self.assertEqual(read_deed(text), deed)
            self.assertEqual(repr(read_deed(text)), repr(deed))

    def test_there_and_back(self):
        chance = random.Random(105)
        for _ in range(1500):
            deed = some_text(chance)
            text = deed_text(deed)
            self.assertEqual(repr(read_deed(text)), repr(deed))
            self.assertEqual(house_by_hand.read(text), deed)

    def test_wrong_texts(self):
        for text in WRONG:
            self.assertIsNone(house_by_hand.read(text), text)
            self.assertEqual(refused(text), 0, text)

    def test_sixty_digits(self):
        for u, e in ((BIG * 9, 1), (-BIG, 7), (1, BIG), (-BIG - 1, BIG)):
            self.assertEqual(read_deed("scaled a b %d/%d" % (u, e)), ("scaled", "a", "b", (u, e)))
        for u, e in ((BIG * 10, 1), (-BIG * 10, 7), (1, BIG * 10), (-BIG * 10 - 1, BIG * 10)):
            self.assertEqual(deed_text(("scaled", "a", "b", (u, e))), "scaled a b %d/%d" % (u, e))
            self.assertEqual(refused("scaled a b %d/%d" % (u, e)), 0)

    def test_signs_put_in_left_out_or_exchanged(self):
        chance = random.Random(106)
        right = 0
        texts = list(DEEDS) + [deed_text(some_text(chance)) for _ in range(40)]
        for text in texts:
            for _ in range(60):
                at = chance.randrange(len(text) + 1)
                sign = chance.choice("abz019./-| ()+,\n\tA" + text[0])
                changed = chance.choice((text[:at] + sign + text[at:], text[:at] + text[at + 1:], text[:at] + sign + text[at + 1:]))
                expected = house_by_hand.read(changed)
                if expected is None:
                    self.assertEqual(refused(changed), 0, changed)
                else:
                    right += 1
                    self.assertEqual(repr(read_deed(changed)), repr(expected))
                    self.assertEqual(deed_text(expected), changed)
        self.assertGreater(right, 100)

    def test_any_value(self):
        for value in any_values() + house_like():
            self.assertEqual(refused(value), 0, repr(value)[:80])
        for deed in DEEDS.values():
            self.assertEqual(refused(deed), 0)
