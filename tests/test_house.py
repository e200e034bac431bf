"""loopworth.house: points [10.1] to [10.4], to the limits of [10.7]."""

import copy
import random
import unittest
from fractions import Fraction

from loopworth import errors
from loopworth.errors import BadDeed, BadName, NothingDone, TooMany, UnknownName
from loopworth.fields import number
from loopworth.halves import count, half_of
from loopworth.house import House, after, ask, is_thing
from loopworth.pictures import of_word, pictures, straight
from loopworth.traces import trace
from tests import by_hand, house_by_hand
from tests.odd_values import any_values, house_like

PRIMES = (2, 3, 5, 7, 11, 13)
FIELDS = (0,) + PRIMES
ARC, TWO = ("()", "()"), ("||", "||")
SHELF = {
    "room": ("room", (7, 3, 6, 2)),
    "small": ("room", (2, 1, 4, 0)),
    "word": ("word", (3, (0, 1, 0))),
    "other": ("word", (3, ())),
    "long": ("word", (2, (0,) * 20)),
    "pic": ("picture", ("()|", "|()")),
    "five": ("picture", ("|||||", "|||||")),
    "sum": ("element", (5, 2, ((ARC, 2), (TWO, 3)))),
    "none": ("element", (5, 2, ())),
    "three": ("element", (5, 3, ())),
    "frac": ("element", (0, 2, ((ARC, (-1, 2)), (TWO, (1, 1))))),
}
HUGE = 10 ** 20
MOST = HUGE - 1


def outcome(function, *arguments):
    """What a function returns, or the name of its error and what this bears."""
    try:
        return function(*arguments)
    except errors.LoopError as error:
        told = [vars(error)[name] for name in ("name", "told", "place", "number") if name in vars(error)]
        return (type(error).__name__, *told)


def asked(shelf, question):
    told = outcome(ask, shelf, question)
    failed = type(told) is tuple and told[:1] in (("BadDeed",), ("UnknownName",))
    return told if failed else ("is", told)


class IsThing(unittest.TestCase):
    def test_right_ones(self):
        for thing in SHELF.values():
            self.assertIs(is_thing(thing), True, thing)
        for p in FIELDS:
            for d in by_hand.numbers(p):
                self.assertIs(is_thing(("room", (p, d, 60, 0))), True)
                self.assertIs(is_thing(("room", (p, d, 0, 0))), True)
                if d != number(p, 0):
                    self.assertIs(is_thing(("element", (p, 4, ((straight(4), d),)))), True)

    def test_rooms(self):
        for told in ((4, 1, 2, 0), (7, 7, 2, 0), (7, (1, 1), 2, 0), (0, 1, 2, 0), (0, (2, 2), 2, 0), (7, 3, 61, 1),
                     (7, 3, 3, 2), (7, 3, 2, 4), (7, 3, 2, -2), (7, 3, -2, -2), (7, 3, 2), (7, 3, 2, 0, 0), (7, True, 2, 0),
                     (7, 3, 1, True), [7, 3, 2, 0], (True, 0, 2, 0), (False, (1, 1), 2, 0), (7, 3, "2", 0)):
            self.assertIs(is_thing(("room", told)), False, told)
        self.assertIs(is_thing(("room", (0, (10 ** 59, 10 ** 59 + 1), 3, 1))), True)

    def test_words(self):
        for told in ((0, ()), (9, ()), (1, ()), (1, (0,)), (8, (6,)), (8, (7,)), (3, (2,)), (3, (1, -1)), (3, [0]), (3, (True,)),
                     (2, (0,) * 20), (2, (0,) * 21), (True, ()), (3,), (3, (), ()), ("3", ()), (3, "0"), (3, None)):
            expected = repr(told) in [repr(right) for right in ((1, ()), (8, (6,)), (2, (0,) * 20))]
            self.assertIs(is_thing(("word", told)), expected, told)

    def test_pictures(self):
        for n in range(1, 9):
            self.assertIs(is_thing(("picture", straight(n))), True)
        for told in (("", ""), straight(9), ("()", "||"), ["()", "()"], ("()",), ("()", "()", "()"), ("()", None), "()", None):
            self.assertIs(is_thing(("picture", told)), False, told)

    def test_elements(self):
        for told in ((5, 0, ()), (5, 5, ()), (5, 5, ((straight(5), 1),)), (5, 3, ((TWO, 1),)), (5, 2, ((TWO, 0),)),
                     (5, 2, ((TWO, 5),)), (5, 2, ((TWO, 1), (ARC, 1))), (5, 2, [(TWO, 1)]), (4, 2, ()), (5, True, ()),
                     (5, 2), (5, 2, (), ()), [5, 2, ()], (0, 2, ((TWO, (1, HUGE)),)), (0, 2, ((TWO, (-HUGE, 1)),)),
                     (0, 2, ((ARC, (1, 1)), (TWO, (HUGE, 1)))), (5, 2, None)):
            self.assertIs(is_thing(("element", told)), False, told)
        for x in ((MOST, 1), (-MOST, 1), (1, MOST), (-MOST, MOST - 1)):
            self.assertIs(is_thing(("element", (0, 2, ((TWO, x),)))), True)

    def test_any_value(self):
        right = 0
        for value in any_values() + house_like():
            for told in (value, ("room", value), ("word", value), ("picture", value), ("element", value), (value, value),
                         ("room", (2, 1, 4, value)), ("word", (3, value)), ("element", (5, 2, value))):
                expected = house_by_hand.faults(told) == set()
                right += expected
                self.assertIs(is_thing(told), expected, repr(told)[:80])
        self.assertGreater(right, 30)


class After(unittest.TestCase):
    def comes(self, deed, thing):
        before = copy.deepcopy(SHELF)
        self.assertEqual(after(SHELF, deed), {**SHELF, deed[1]: thing})
        self.assertEqual(SHELF, before)

    def refused(self, deed, *told):
        before = copy.deepcopy(SHELF)
        self.assertEqual(outcome(after, SHELF, deed), told, deed)
        self.assertEqual(outcome(House().do, deed)[0] in ("BadDeed", "BadName", "UnknownName", "TooMany"), True)
        self.assertEqual(SHELF, before)

    def test_things_told(self):
        self.comes(("room", "a", 7, 3, 60, 0), ("room", (7, 3, 60, 0)))
        self.comes(("room", "a", 0, (1, 2), 0, 0), ("room", (0, (1, 2), 0, 0)))
        self.comes(("word", "a", 1, ()), ("word", (1, ())))
        self.comes(("word", "abcdefgh", 8, (6, 0) * 10), ("word", (8, (6, 0) * 10)))
        self.comes(("picture", "a", "()|", "|()"), ("picture", ("()|", "|()")))

    def test_in_the_place_of_what_stood_there(self):
        self.comes(("word", "room", 2, (0,)), ("word", (2, (0,))))
        self.comes(("turn", "pic", "pic"), ("picture", ("|()", "()|")))

    def test_words(self):
        self.comes(("after", "a", "word", "other"), ("word", (3, (0, 1, 0))))
        self.comes(("after", "a", "word", "word"), ("word", (3, (0, 1, 0, 0, 1, 0))))
        shelf = {"b": ("word", (4, (0, 1))), "c": ("word", (4, (2,)))}
        self.assertEqual(after(shelf, ("after", "a", "b", "c"))["a"], ("word", (4, (0, 1, 2))))
        self.assertEqual(after(shelf, ("after", "a", "c", "b"))["a"], ("word", (4, (2, 0, 1))))
        self.assertEqual(after(shelf, ("turn", "a", "b"))["a"], ("word", (4, (1, 0))))
        self.assertEqual(after(shelf, ("mirror", "a", "b"))["a"], ("word", (4, (2, 1))))
        self.assertEqual(after(shelf, ("drawn", "a", "b"))["a"], ("picture", of_word(4, (0, 1))[1]))
        self.comes(("drawn", "a", "long"), ("picture", ("()", "()")))
        self.comes(("mirror", "a", "long"), ("word", (2, (0,) * 20)))

    def test_pictures_turned_and_mirrored(self):
        self.comes(("turn", "a", "pic"), ("picture", ("|()", "()|")))
        self.comes(("mirror", "a", "pic"), ("picture", ("|()", "()|")))
        shelf = {"b": ("picture", ("()|", "()|"))}
        self.assertEqual(after(shelf, ("turn", "a", "b"))["a"], ("picture", ("()|", "()|")))
        self.assertEqual(after(shelf, ("mirror", "a", "b"))["a"], ("picture", ("|()", "|()")))

    def test_elements_turned_and_mirrored(self):
        members = tuple((picture, at + 1) for at, picture in enumerate(pictures(3)))
        shelf = {"e": ("element", (7, 3, members))}
        for word in ("turn", "mirror"):
            kind, (p, n, found) = after(shelf, (word, "a", "e"))["a"]
            self.assertEqual((kind, p, n), ("element", 7, 3))
            self.assertEqual(found, tuple(sorted((house_by_hand.changed(word, picture), x) for picture, x in members)))
            self.assertNotEqual(found, members)

    def test_led(self):
        self.comes(("led", "a", "word", 5, 3), ("element", (5, 3, ((("()|", "()|"), 1),))))
        self.comes(("led", "a", "long", 5, 3), ("element", (5, 2, ((ARC, 3 ** 19 % 5),))))
        self.comes(("led", "a", "long", 5, 0), ("element", (5, 2, ())))
        self.comes(("led", "a", "other", 5, 0), ("element", (5, 3, ((straight(3), 1),))))
        self.comes(("led", "a", "pic", 5, 0), ("element", (5, 3, ((("()|", "|()"), 1),))))
        self.comes(("led", "a", "pic", 0, (10 ** 30, 1)), ("element", (0, 3, ((("()|", "|()"), (1, 1)),))))
        self.comes(("led", "a", "long", 0, (-9, 1)), ("element", (0, 2, ((ARC, (-9 ** 19, 1)),))))

    def test_reckoned(self):
        self.comes(("plus", "a", "sum", "sum"), ("element", (5, 2, ((ARC, 4), (TWO, 1)))))
        self.comes(("plus", "a", "sum", "none"), SHELF["sum"])
        self.comes(("times", "a", "sum", "sum", 3), ("element", (5, 2, ((ARC, (4 * 3 + 12) % 5), (TWO, 4)))))
        self.comes(("times", "a", "none", "sum", 3), SHELF["none"])
        self.comes(("scaled", "a", "sum", 4), ("element", (5, 2, ((ARC, 3), (TWO, 2)))))
        self.comes(("scaled", "a", "sum", 0), SHELF["none"])
        self.comes(("scaled", "a", "frac", (2, 3)), ("element", (0, 2, ((ARC, (-1, 3)), (TWO, (2, 3))))))
        self.comes(("times", "a", "frac", "frac", (2, 1)), SHELF["frac"])
        shelf = {"b": ("element", (5, 3, ((("()|", "()|"), 1),))), "c": ("element", (5, 3, ((("|()", "|()"), 2),)))}
        self.assertEqual(after(shelf, ("times", "a", "b", "c", 1))["a"][1][2], ((("()|", "|()"), 2),))
        self.assertEqual(after(shelf, ("times", "a", "c", "b", 1))["a"][1][2], ((("|()", "()|"), 2),))

    def test_away(self):
        for name in SHELF:
            self.assertEqual(after(SHELF, ("away", name)), {other: SHELF[other] for other in SHELF if other != name})
        self.assertEqual(len(SHELF), 11)

    def test_a_new_shelf(self):
        shelf = {}
        found = after(shelf, ("word", "a", 1, ()))
        found.clear()
        self.assertEqual(shelf, {})
        self.assertEqual(after(shelf, ("word", "a", 1, ())), {"a": ("word", (1, ()))})

    def test_forms(self):
        for deed in ((), ("room",), ("room", "A", 7, 3, 6), ("room", "A", 7, 3, 6, 2, 2), ("rooms", "A"), ("Room", "a", 7, 3, 6, 2),
                     ["room", "a", 7, 3, 6, 2], "room a 7 3 6 2", None, {"room": "a"}, (("room",), "a"), (1,), ("rank", "room"),
                     ("away",), ("away", "room", "room"), ("drawn", "a"), ("drawn", "A", "zz", "zz"), ("",), (None, "a")):
            self.refused(deed, "BadDeed")

    def test_names(self):
        for name in ("", "abcdefghi", "A", "a1", "a b", " a", "a\n", "-", 1, None, True, ("a",), ["a"], {"a": 1}, "aaaaaaaaa"):
            self.refused(("word", name, 99, 99), "BadName", name)
            self.refused(("drawn", name, "nothing"), "BadName", name)
            self.refused(("away", name), "UnknownName", name)
        self.comes(("word", "abcdefgh", 2, ()), ("word", (2, ())))

    def test_unknown_names(self):
        for name in ("nothing", "x", "Room", "", 1, None, ["word"], ("word",), {"word": 1}, [[["word"]]]):
            self.refused(("turn", "a", name), "UnknownName", name)
            self.refused(("after", "a", name, "zzz"), "UnknownName", name)
            self.refused(("after", "a", "room", name), "UnknownName", name)
            self.refused(("times", "a", "room", name, "?"), "UnknownName", name)
            self.refused(("led", "a", name, 99, 99), "UnknownName", name)

    def test_parts_of_other_sorts(self):
        for deed in (("room", "a", 4, 1, 2, 0), ("room", "a", 7, 7, 2, 0), ("room", "a", 0, 3, 2, 0), ("room", "a", 7, (1, 2), 2, 0),
                     ("room", "a", 7, 3, 61, 1), ("room", "a", 7, 3, 2, 1), ("room", "a", 7, 3, 2, 4), ("room", "a", 7, 3, -2, -2),
                     ("room", "a", 7, True, 2, 0), ("room", "a", "7", 3, 2, 0), ("room", "a", [7], 3, 2, 0),
                     ("word", "a", 0, ()), ("word", "a", 9, ()), ("word", "a", 3, (2,)), ("word", "a", 3, [0]), ("word", "a", 8, (7,)),
                     ("word", "a", 2, (0,) * 21), ("word", "a", 3, (True,)), ("word", "a", 3, "0"), ("word", "a", 3, 0),
                     ("picture", "a", "()", "||"), ("picture", "a", "", ""), ("picture", "a", "|" * 9, "|" * 9),
                     ("picture", "a", "()|", "||"), ("picture", "a", "(|)", "(|)"), ("picture", "a", ("()",), "()"),
                     ("led", "a", "word", 5, 5), ("led", "a", "word", 5, (1, 1)), ("led", "a", "word", 6, 1),
                     ("scaled", "a", "sum", 13), ("scaled", "a", "sum", None), ("scaled", "a", "sum", (2, 2)),
                     ("times", "a", "sum", "sum", -1), ("times", "a", "sum", "sum", [1])):
            self.refused_here(deed)

    def refused_here(self, deed):
        before = copy.deepcopy(SHELF)
        self.assertEqual(outcome(after, SHELF, deed), ("BadDeed",), deed)
        self.assertEqual(SHELF, before)

    def test_things_that_do_not_fit(self):
        for deed in (("after", "a", "word", "long"), ("after", "a", "word", "pic"), ("after", "a", "room", "room"),
                     ("turn", "a", "room"), ("mirror", "a", "small"), ("drawn", "a", "room"), ("drawn", "a", "pic"),
                     ("drawn", "a", "sum"), ("led", "a", "sum", 5, 1), ("led", "a", "room", 5, 1), ("led", "a", "five", 5, 1),
                     ("plus", "a", "sum", "three"), ("plus", "a", "sum", "frac"), ("plus", "a", "sum", "word"),
                     ("plus", "a", "pic", "sum"), ("times", "a", "sum", "frac", 1), ("times", "a", "sum", "three", 1),
                     ("times", "a", "sum", "sum", 5), ("times", "a", "sum", "sum", (1, 1)), ("times", "a", "frac", "frac", 1),
                     ("scaled", "a", "sum", 12), ("scaled", "a", "sum", (1, 1)), ("scaled", "a", "frac", 1),
                     ("scaled", "a", "word", 1), ("scaled", "a", "room", 1), ("plus", "a", "room", "small")):
            self.refused_here(deed)
        shelf = {"b": ("word", (5, (0, 0) * 10))}
        self.assertEqual(outcome(after, shelf, ("led", "a", "b", 0, (10 ** 59, 1))), ("BadDeed",))

    def test_too_many_names(self):
        full = {"abcdefghijkl"[at]: ("word", (1, ())) for at in range(12)}
        self.assertEqual(outcome(after, full, ("word", "m", 1, ())), ("TooMany",))
        self.assertEqual(outcome(after, full, ("turn", "m", "a")), ("TooMany",))
        self.assertEqual(after(full, ("word", "a", 2, (0,))), {**full, "a": ("word", (2, (0,)))})
        self.assertEqual(len(after(full, ("away", "l"))), 11)
        self.assertEqual(len(after(after(full, ("away", "l")), ("word", "m", 1, ()))), 12)
        self.assertEqual(outcome(after, full, ("word", "m", 9, ())), ("BadDeed",))
        self.assertEqual(outcome(after, full, ("word", "M", 1, ())), ("BadName", "M"))
        self.assertEqual(outcome(after, full, ("turn", "m", "n")), ("UnknownName", "n"))

    def test_too_many_letters(self):
        for many, more in ((20, 1), (1, 20), (20, 20), (11, 10)):
            shelf = {"b": ("word", (2, (0,) * many)), "c": ("word", (2, (0,) * more))}
            self.assertEqual(outcome(after, shelf, ("after", "a", "b", "c")), ("TooMany",))
            self.assertEqual(outcome(after, shelf, ("after", "b", "b", "c")), ("TooMany",))
        shelf = {"b": ("word", (2, (0,) * 10)), "c": ("word", (3, (0,) * 20))}
        self.assertEqual(after(shelf, ("after", "a", "b", "b"))["a"], ("word", (2, (0,) * 20)))
        self.assertEqual(outcome(after, shelf, ("after", "a", "b", "c")), ("BadDeed",))

    def test_too_many_figures(self):
        shelf = {
            "b": ("element", (0, 2, ((TWO, (MOST, 1)),))), "c": ("element", (0, 2, ((TWO, (1, 1)),))),
            "w": ("word", (2, (0, 0))), "e": ("element", (0, 2, ((TWO, (1, MOST)),))),
            "m": ("element", (0, 2, ((TWO, (-MOST, 1)),))),
        }
        for deed in (("plus", "a", "b", "c"), ("scaled", "a", "b", (2, 1)), ("scaled", "a", "e", (1, 2)), ("times", "a", "b", "b", (1, 1)),
                     ("led", "a", "w", 0, (HUGE, 1)), ("led", "a", "w", 0, (-HUGE, 1)), ("led", "a", "w", 0, (1, HUGE)),
                     ("scaled", "a", "m", (2, 1)), ("plus", "a", "e", "b"), ("scaled", "a", "c", (10 ** 59, 1))):
            self.assertEqual(outcome(after, shelf, deed), ("TooMany",), deed)
        self.assertEqual(after(shelf, ("led", "a", "w", 0, (-MOST, 1)))["a"][1][2], ((ARC, (-MOST, 1)),))
        self.assertEqual(after(shelf, ("scaled", "a", "b", (-1, 1)))["a"], shelf["m"])
        self.assertEqual(after(shelf, ("scaled", "a", "b", (1, MOST)))["a"], shelf["c"])
        self.assertEqual(after(shelf, ("plus", "a", "b", "m"))["a"], ("element", (0, 2, ())))

    def test_against_a_house_by_hand(self):
        chance = random.Random(101)
        shelf, seen = {}, {}
        for step in range(4000):
            deed = some_deed(chance, shelf)
            before = dict(shelf)
            expected = house_by_hand.after(shelf, deed)
            found = outcome(after, shelf, deed)
            self.assertEqual(found, expected, (deed, shelf))
            self.assertEqual(shelf, before)
            word = found[0] if type(found) is tuple else "done " + deed[0]
            seen[word] = seen.get(word, 0) + 1
            if type(found) is dict:
                shelf = {} if step % 400 == 399 else found
                self.assertTrue(all(is_thing(thing) for thing in shelf.values()))
        for word in ["done " + word for word in house_by_hand.PARTS] + ["BadDeed", "BadName", "UnknownName", "TooMany"]:
            self.assertGreater(seen.get(word, 0), 10, seen)

    def test_any_value(self):
        some = any_values() + house_like()
        for value in some:
            deeds = [value, ("room", value), ("room", "a", 7, 3, value, 2), ("room", "a", value, 3, 2, 2), ("word", "a", 3, value),
                     ("picture", "a", value, "()"), ("turn", "a", value), ("turn", value, "sum"), ("after", "a", "word", value),
                     ("led", "a", "word", value, 1), ("led", "a", "word", 0, value), ("times", "a", "frac", "frac", value),
                     ("scaled", "a", "frac", value), ("scaled", "a", "sum", value), ("away", value), (value, "a"), (value,)]
            for deed in deeds:
                self.assertEqual(outcome(after, SHELF, deed), house_by_hand.after(SHELF, deed), repr(deed)[:80])

    def test_errors_bear_copies(self):
        name = [["a"], {"b": ["c"]}]
        for deed in (("word", name, 1, ()), ("away", name), ("turn", "a", name)):
            with self.assertRaises((BadName, UnknownName)) as caught:
                after(SHELF, deed)
            name[1]["b"].append("d")
            self.assertNotEqual(caught.exception.name, name)
            name[1]["b"].pop()
            self.assertEqual(caught.exception.name, name)


def some_number(chance, p):
    if p:
        return chance.randrange(p + (chance.random() < 0.05))
    return by_hand.told(0, Fraction(chance.randrange(-10 ** chance.choice((1, 1, 19, 22)), 10 ** 2), chance.randrange(1, 9)))


def some_deed(chance, shelf):
    """A deed that is often done and sometimes refused."""
    new = chance.choice("abcdefghijklmn" * 3 + "A")
    old = list(shelf) + (["zz"] if chance.random() < 0.1 or not shelf else [])
    b, c = chance.choice(old), chance.choice(old)
    p = chance.choice((0, 0, 2, 5))
    n = chance.randrange(1, 5)
    half = lambda: half_of(n, n % 2, chance.randrange(count(n, n % 2)))
    return chance.choice((
        ("room", new, p, some_number(chance, p), n, n - chance.choice((0, 0, 2, 1))),
        ("word", new, n, tuple(chance.randrange(max(1, n - 1)) for _ in range(chance.choice((0, 2, 3, 12))))),
        ("word", new, 2, (0,) * chance.choice((1, 2, 15, 21))),
        ("picture", new, half(), half()), ("after", new, b, c), ("after", new, b, b), ("turn", new, b), ("mirror", new, b), ("drawn", new, b),
        ("led", new, b, p, some_number(chance, p)), ("led", new, b, p, some_number(chance, p)), ("plus", new, b, c),
        ("plus", new, b, b), ("times", new, b, c, some_number(chance, p)), ("times", new, b, b, some_number(chance, p)),
        ("scaled", new, b, some_number(chance, p)), ("away", b), ("word", new), (new, b),
    ))


class Ask(unittest.TestCase):
    def test_rooms(self):
        self.assertEqual(ask(SHELF, ("rank", "room")), 4)
        self.assertEqual(ask(SHELF, ("pieces", "small")), (0, 4))
        self.assertIs(ask(SHELF, ("middle", "small")), False)
        self.assertEqual(ask(SHELF, ("change", "small", "room")), (1, 4, (0,), (2,)))
        self.assertEqual(ask(SHELF, ("change", "room", "small")), (4, 1, (2,), (0,)))
        self.assertEqual(ask(SHELF, ("change", "small", "small")), (1, 1, (), ()))

    def test_all_small_rooms(self):
        for p in FIELDS:
            for d in by_hand.numbers(p)[:5]:
                for n in range(6):
                    for k in range(n % 2, n + 1, 2):
                        shelf = {"b": ("room", (p, d, n, k)), "c": ("room", (2, 1, 4, 0))}
                        for word in ("rank", "pieces", "middle"):
                            self.assertEqual(asked(shelf, (word, "b")), house_by_hand.ask(shelf, (word, "b")))
                        for question in (("change", "b", "c"), ("change", "c", "b")):
                            self.assertEqual(asked(shelf, question), house_by_hand.ask(shelf, question))

    def test_no_points(self):
        for p in FIELDS:
            for d in by_hand.numbers(p):
                shelf = {"b": ("room", (p, d, 0, 0))}
                self.assertEqual([ask(shelf, (word, "b")) for word in ("rank", "pieces", "middle")], [1, (0,), True])
                self.assertIs(ask(shelf, ("middle", "b")), True)

    def test_sixty_points(self):
        shelf = {"b": ("room", (2, 1, 60, 0)), "c": ("room", (0, (1, 2), 60, 60))}
        self.assertEqual(ask(shelf, ("change", "b", "c"))[1], 1)
        self.assertEqual(ask(shelf, ("pieces", "c")), (60,))
        self.assertEqual(ask({"b": ("room", (0, (2, 1), 60, 0))}, ("rank", "b")), count(60, 0))
        self.assertEqual(ask({"b": ("room", (5, 0, 60, 0))}, ("rank", "b")), 0)

    def test_words_alike(self):
        shelf = {"b": ("word", (4, (0, 2))), "c": ("word", (4, (2, 0))), "d": ("word", (4, (0, 0))), "e": ("word", (4, (0,))),
                 "f": ("word", (3, (0,)))}
        self.assertIs(ask(shelf, ("alike", "b", "c")), True)
        self.assertIs(ask(shelf, ("alike", "d", "e")), False)
        self.assertIs(ask(shelf, ("alike", "e", "e")), True)
        self.assertEqual(outcome(ask, shelf, ("alike", "e", "f")), ("BadDeed",))

    def test_pictures_and_elements_alike(self):
        shelf = {"b": ("picture", ("()", "()")), "c": ("picture", ("||", "||")), "d": ("picture", ("()", "()")),
                 "e": ("element", (5, 2, ())), "f": ("element", (7, 2, ())), "g": ("element", (5, 3, ())), "h": ("element", (5, 2, ())),
                 "i": ("element", (5, 2, ((ARC, 1),))), "j": ("picture", ("|", "|"))}
        alike = [("b", "d"), ("e", "h"), ("b", "b"), ("i", "i")]
        for one, other in (("b", "c"), ("b", "j"), ("b", "d"), ("b", "b"), ("e", "f"), ("e", "g"), ("e", "h"), ("e", "i"), ("i", "i")):
            self.assertIs(ask(shelf, ("alike", one, other)), (one, other) in alike)
            self.assertIs(ask(shelf, ("alike", other, one)), (one, other) in alike)
        for one, other in (("b", "e"), ("e", "b")):
            self.assertEqual(outcome(ask, shelf, ("alike", one, other)), ("BadDeed",))
        for one, other in (("room", "room"), ("room", "word"), ("word", "room"), ("word", "pic"), ("sum", "pic")):
            self.assertEqual(outcome(ask, SHELF, ("alike", one, other)), ("BadDeed",))

    def test_round(self):
        for d in range(5):
            self.assertEqual(ask(SHELF, ("round", "sum", d)), trace(5, d, SHELF["sum"][1][2]))
            self.assertEqual(ask(SHELF, ("round", "none", d)), 0)
        self.assertEqual(ask(SHELF, ("round", "frac", (2, 1))), (3, 1))
        self.assertEqual(ask(SHELF, ("round", "frac", (10 ** 59, 1))), trace(0, (10 ** 59, 1), SHELF["frac"][1][2]))

    def test_refused(self):
        for question in ((), ("rank",), ("rank", "room", "room"), ("change", "room"), ("alike", "zz"), ("round", "zz"), ("rank ", "room"),
                         ["rank", "room"], "rank room", None, ("room", "a", 7, 3, 6, 2), ("turn", "a", "pic"), (("rank",), "room"), (1, "room")):
            self.assertEqual(outcome(ask, SHELF, question), ("BadDeed",), question)
        for name in ("zz", "", 1, None, ["room"], ("room",), {"room": 1}):
            for question in (("rank", name), ("change", name, "yy"), ("change", "room", name), ("alike", "room", name),
                             ("round", name, "?"), ("alike", "sum", name), ("pieces", name), ("middle", name)):
                self.assertEqual(outcome(ask, SHELF, question), ("UnknownName", name), question)
        for question in (("rank", "word"), ("pieces", "pic"), ("middle", "sum"), ("change", "room", "word"), ("change", "word", "room"),
                         ("change", "word", "word"), ("round", "room", 1), ("round", "word", 1), ("round", "pic", 1),
                         ("round", "sum", 5), ("round", "sum", (1, 1)), ("round", "frac", 1), ("round", "sum", True),
                         ("round", "frac", (2, 2)), ("round", "sum", None), ("round", "sum", [1])):
            self.assertEqual(outcome(ask, SHELF, question), ("BadDeed",), question)

    def test_against_a_house_by_hand(self):
        small = {name: thing for name, thing in SHELF.items()}
        for value in any_values() + house_like() + list(small):
            for question in (value, ("rank", value), ("pieces", value), ("middle", value), ("change", value, "small"),
                             ("change", "small", value), ("alike", value, "word"), ("alike", "sum", value), ("alike", "pic", value),
                             ("round", value, 1), ("round", "sum", value), ("round", "frac", value), (value, "room")):
                self.assertEqual(asked(small, question), house_by_hand.ask(small, question), repr(question)[:80])
        self.assertEqual(small, SHELF)


class Moments(unittest.TestCase):
    def test_doing_and_taking_back(self):
        house = House()
        self.assertEqual([house.shelf(), house.log(), house.labels()], [{}, [], []])
        deeds = [("word", "a", 2, (0,)), ("turn", "b", "a"), ("away", "a"), ("word", "c", 1, ())]
        shelves = [{}]
        for at, deed in enumerate(deeds):
            self.assertEqual(house.do(deed), at + 1)
            shelves.append(house.shelf())
            self.assertEqual(house.log(), deeds[:at + 1])
        self.assertEqual(sorted(shelves[-1]), ["b", "c"])
        for done in (3, 2, 1, 0):
            self.assertEqual(house.undo(), done)
            self.assertEqual([house.shelf(), house.log()], [shelves[done], deeds[:done]])
        self.assertEqual(outcome(house.undo), ("NothingDone",))
        for done in (1, 2, 3, 4):
            self.assertEqual(house.redo(), done)
            self.assertEqual([house.shelf(), house.log()], [shelves[done], deeds[:done]])
        self.assertEqual(outcome(house.redo), ("NothingDone",))
        self.assertEqual([house.shelf(), house.log()], [shelves[4], deeds])

    def test_a_new_house_has_nothing_done(self):
        house = House()
        with self.assertRaises(NothingDone):
            house.undo()
        with self.assertRaises(NothingDone):
            house.redo()
        self.assertEqual([house.shelf(), house.log()], [{}, []])

    def test_a_deed_leaves_none_to_be_done_again(self):
        house = House()
        for name in "abc":
            house.do(("word", name, 1, ()))
        house.undo()
        house.undo()
        self.assertEqual(house.do(("word", "d", 1, ())), 2)
        self.assertEqual(outcome(house.redo), ("NothingDone",))
        self.assertEqual(sorted(house.shelf()), ["a", "d"])
        self.assertEqual(house.log(), [("word", "a", 1, ()), ("word", "d", 1, ())])
        self.assertEqual([house.undo(), house.undo(), house.redo()], [1, 0, 1])

    def test_a_refused_deed_leaves_all_as_it_was(self):
        house = House()
        house.do(("word", "a", 1, ()))
        house.do(("word", "b", 1, ()))
        house.undo()
        before = [house.shelf(), house.log(), house.labels()]
        for deed in (("word", "A", 1, ()), ("turn", "c", "z"), ("drawn", "a"), None, ("word", "c", 9, ()), ("away", "b"),
                     ("word", ["a"], 1, ())):
            self.assertIn(outcome(house.do, deed)[0], ("BadDeed", "BadName", "UnknownName"))
            self.assertEqual([house.shelf(), house.log(), house.labels()], before)
        self.assertEqual(house.redo(), 2)
        self.assertEqual(sorted(house.shelf()), ["a", "b"])

    def test_full_shelves(self):
        house = House()
        for at, name in enumerate("abcdefghijkl"):
            self.assertEqual(house.do(("word", name, 1, ())), at + 1)
        self.assertEqual(outcome(house.do, ("word", "m", 1, ())), ("TooMany",))
        self.assertEqual([len(house.log()), len(house.shelf())], [12, 12])
        self.assertEqual(house.do(("word", "a", 2, ())), 13)

    def test_what_is_told_is_new(self):
        house = House()
        house.do(("word", "a", 1, ()))
        house.keep("x", ("alike", "a", "a"))
        house.shelf().clear()
        house.shelf()["b"] = 1
        house.log().append(1)
        house.labels().clear()
        self.assertEqual([sorted(house.shelf()), house.log(), house.labels()], [["a"], [("word", "a", 1, ())], ["x"]])

    def test_houses_share_nothing(self):
        one, other = House(), House()
        one.do(("word", "a", 1, ()))
        one.keep("x", ("alike", "a", "a"))
        self.assertEqual([other.shelf(), other.log(), other.labels()], [{}, [], []])

    def test_hundred_deeds(self):
        chance = random.Random(102)
        house, done, shelves = House(), [], [{}]
        taken = []
        for _ in range(600):
            chosen = chance.random()
            if chosen < 0.25:
                expected = ("NothingDone",) if not done else len(done) - 1
                self.assertEqual(outcome(house.undo), expected)
                if done:
                    taken.append((done.pop(), shelves.pop()))
            elif chosen < 0.45:
                expected = ("NothingDone",) if not taken else len(done) + 1
                self.assertEqual(outcome(house.redo), expected)
                if taken:
                    deed, shelf = taken.pop()
                    done.append(deed)
                    shelves.append(shelf)
            elif len(done) < 100:
                deed = some_deed(chance, shelves[-1])
                come = house_by_hand.after(shelves[-1], deed)
                found = outcome(house.do, deed)
                if type(come) is dict:
                    done.append(deed)
                    shelves.append(come)
                    taken = []
                self.assertEqual(found, len(done) if type(come) is dict else come)
            self.assertEqual(house.shelf(), shelves[-1])
            self.assertEqual(house.log(), done)


class Kept(unittest.TestCase):
    def house(self):
        house = House()
        house.do(("room", "a", 2, 1, 4, 0))
        house.do(("word", "w", 2, (0, 0)))
        return house

    def test_the_same_else_or_gone(self):
        house = self.house()
        self.assertEqual(house.keep("x", ("rank", "a")), 1)
        self.assertEqual(house.today("x"), ("same",))
        house.do(("room", "a", 5, 2, 4, 0))
        self.assertEqual(house.today("x"), ("else", 2))
        house.do(("room", "a", 7, 0, 2, 2))
        self.assertEqual(house.today("x"), ("same",))
        house.do(("word", "a", 2, ()))
        self.assertEqual(house.today("x"), ("gone",))
        house.do(("away", "a"))
        self.assertEqual(house.today("x"), ("gone",))
        for expected in (("gone",), ("same",), ("else", 2), ("same",)):
            house.undo()
            self.assertEqual(house.today("x"), expected)
        house.undo()
        house.undo()
        self.assertEqual([house.today("x"), house.labels(), house.shelf()], [("gone",), ["x"], {}])
        for expected in (("same",), ("same",), ("else", 2)):
            house.redo()
            self.assertEqual(house.today("x"), expected)

    def test_other_answers(self):
        house = self.house()
        self.assertIs(house.keep("b", ("middle", "a")), False)
        self.assertEqual(house.keep("c", ("pieces", "a")), (0, 4))
        self.assertIs(house.keep("d", ("alike", "w", "w")), True)
        house.do(("led", "e", "w", 5, 2))
        self.assertEqual(house.keep("e", ("round", "e", 2)), 2 * 2 % 5)
        house.do(("room", "a", 5, 2, 3, 1))
        self.assertEqual([house.today(label) for label in "bcde"], [("else", True), ("else", (1,)), ("same",), ("same",)])
        house.do(("led", "e", "w", 7, 3))
        self.assertEqual(house.today("e"), ("else", 3 * 2 % 7))
        house.do(("led", "e", "w", 0, (1, 2)))
        self.assertEqual(house.today("e"), ("gone",))

    def test_labels(self):
        house = self.house()
        for label in ("z", "b", "mm", "a"):
            house.keep(label, ("rank", "a"))
        self.assertEqual(house.labels(), ["a", "b", "mm", "z"])
        for value in any_values() + ["c", "zz"]:
            if value not in ("a", "b", "mm", "z"):
                self.assertEqual(outcome(house.today, value), ("UnknownName", value))

    def test_refused_in_order(self):
        house = self.house()
        house.keep("x", ("rank", "a"))
        for label in ("", "X", "abcdefghi", "a b", 1, None, True, ("a",), ["a"], {"a": 1}, "x"):
            self.assertEqual(outcome(house.keep, label, ("rank", "zz")), ("BadName", label))
            self.assertEqual(outcome(house.keep, label, None), ("BadName", label))
        self.assertEqual(outcome(house.keep, "y", ("rank", "zz")), ("UnknownName", "zz"))
        self.assertEqual(outcome(house.keep, "y", ("rank", "w")), ("BadDeed",))
        self.assertEqual(house.labels(), ["x"])
        for label in "bcdefgh":
            house.keep(label, ("rank", "a"))
        self.assertEqual(len(house.labels()), 8)
        self.assertEqual(outcome(house.keep, "y", ("rank", "a")), ("TooMany",))
        self.assertEqual(outcome(house.keep, "y", ("rank", "zz")), ("UnknownName", "zz"))
        self.assertEqual(outcome(house.keep, "y", ["rank", "a"]), ("BadDeed",))
        self.assertEqual(outcome(house.keep, "x", ("rank", "a")), ("BadName", "x"))
        self.assertEqual(house.labels(), ["b", "c", "d", "e", "f", "g", "h", "x"])
        self.assertEqual(house.today("x"), ("same",))

    def test_any_value(self):
        house = self.house()
        for value in any_values() + house_like():
            found = outcome(house.keep, value, value)
            if house_by_hand.is_name(value):
                self.assertEqual(found, house_by_hand.ask(house.shelf(), value))
            else:
                self.assertEqual(found, ("BadName", value))
            found = outcome(house.keep, "y", value)
            if not (type(value) is tuple and value[:1] in [(word,) for word in house_by_hand.ASKED]):
                self.assertEqual(found, ("BadDeed",), repr(value)[:80])
        self.assertEqual(len(house.log()), 2)

    def test_asking_changes_nothing(self):
        house = self.house()
        house.undo()
        before = [house.shelf(), house.log()]
        house.keep("x", ("rank", "a"))
        house.today("x")
        self.assertEqual([house.shelf(), house.log()], before)
        self.assertEqual(house.redo(), 2)


class Errors(unittest.TestCase):
    def test_kinds(self):
        for kind, deed in ((BadDeed, None), (BadName, ("word", "A", 1, ())), (UnknownName, ("away", "a"))):
            with self.assertRaises(kind):
                House().do(deed)
            with self.assertRaises(kind):
                after({}, deed)
        with self.assertRaises(TooMany):
            after({"b": ("word", (2, (0,) * 20))}, ("after", "a", "b", "b"))
