"""Each name of the interface stands in its file, defined there, with its arguments."""

import ast
import pathlib
import unittest

PACKAGE = pathlib.Path(__file__).resolve().parent.parent / "loopworth"

FUNCTIONS = {
    "fields.py": (
        "is_field(value); is_number(p, value); number(p, n); plus(p, x, y); minus(p, x, y); times(p, x, y); "
        "over(p, x, y)"
    ),
    "worths.py": (
        "worth_row(p, d, m); term(p, d, m); length(p, d); judge_length(p, d, value); lengths_of(p); worths_of(p, l)"
    ),
    "halves.py": (
        "is_half(value); points(half); loose(half); partner(half, i); arcs_of(half); near(half); mirrored(half); "
        "halves(n, k); count(n, k); all_halves(n); path(half); half_along(told); half_by(n, arcs); "
        "half_number(half); half_of(n, k, number); next_half(half)"
    ),
    "pictures.py": (
        "is_picture(value); straight(n); arc(n, i); pictures(n); turned(picture); flipped(picture); "
        "glue(one, other); product(one, other); of_word(n, word); are_alike(n, one, other); letters_of(picture); "
        "fewest(picture); fewest_length(picture)"
    ),
    "rooms.py": "value(p, d, one, other); table(p, d, n, k); values_of(p, d, n, k, row)",
    "ranks.py": (
        "rank_of(p, rows); reduced(p, rows); determinant(p, rows); table_rank(p, d, n, k); "
        "nought_basis(p, d, n, k); judge_nought(p, d, n, k, value)"
    ),
    "digits.py": (
        "digits(p, l, N); of_digits(p, l, told); support(p, l, N); holds(p, l, k, r); next_over(p, l, k)"
    ),
    "pieces.py": (
        "size(p, d, n, r); sizes(p, d, n); pieces_of(p, d, n, k); keeps_all(p, d, n, k); lost(p, d, n); "
        "all_kept(p, d, n); shares_of(p, d, n, r)"
    ),
    "elements.py": (
        "is_element(p, n, value); element(p, pairs); share(p, one, picture); added(p, one, other); "
        "scaled(p, one, x); product_of(p, d, one, other); word_element(p, d, n, word); turned_element(one)"
    ),
    "middles.py": (
        "has_middle(p, d, n); middle(p, d, n); bar(p, d, n); judge_middle(p, d, n, value); "
        "judge_bar(p, d, n, value)"
    ),
    "acting.py": (
        "is_vector(p, n, k, value); unit_of(p, n, k, half); under(picture, half); "
        "acted(p, d, n, k, picture, vector); matrix_of(p, d, n, k, picture); meet(p, d, n, k, one, other); "
        "closure(p, d, n, k, vectors); is_closed(p, d, n, k, vectors); brings(p, d, n, k, vector); "
        "way_to(p, d, n, k, vector, half); judge_way(p, d, n, k, vector, half, value)"
    ),
    "left.py": (
        "left_halves(p, d, n, k); left_table(p, d, n, k); rest_of(p, d, n, k, vector); "
        "are_left_alike(p, d, n, k, one, other); left_matrix(p, d, n, k, picture)"
    ),
    "less.py": (
        "cut(half); join(rest, opened); grown(picture); split(p, n, k, vector); put_together(p, n, k, low, high); "
        "rooms_of(p, d, n, r); times(p, d, n, r); times_down(p, d, n, r, m); falls_apart(p, d, n, r)"
    ),
    "folding.py": (
        "fold(picture); unfold(half); pictures_by_folds(n); loops_round(picture); closed_last(picture)"
    ),
    "traces.py": (
        "trace(p, d, element); closed_element(p, d, element); round_value(p, d, one, other); round_table(p, d, n); "
        "round_rank(p, d, n); keeps_round(p, d, n); judge_silent(p, d, n, value); answers(p, d, n); "
        "judge_answers(p, d, n, value); trace_row(p, d, n, element, m)"
    ),
    # The document calls the argument of element_text by the name of a builtin, which LANGUAGE.md bars.
    "texts.py": "picture_text(picture); element_text(one); thing_text(thing); deed_text(deed); read_deed(text)",
    "house.py": "is_thing(value); after(shelf, deed); ask(shelf, question)",
}
CLASSES = {
    "errors.py": (
        "LoopError(); NoMiddle(number); HasMiddle(); BadHalf(told); TooMany(); BadText(place); BadDeed(); "
        "BadName(name); UnknownName(name); NothingDone()"
    ),
    "house.py": "House()",
    "console.py": "Console()",
}
METHODS = {
    ("house.py", "House"): (
        "shelf(); log(); do(deed); undo(); redo(); keep(label, question); labels(); today(label)"
    ),
    ("console.py", "Console"): "house(); say(line)",
}


def listed(text):
    """The pairs of a name and its arguments that a line of the interface lists."""
    for entry in text.split("; "):
        name, arguments = entry[:-1].split("(")
        yield name, [word for word in arguments.split(", ") if word]


def defined(file, kind):
    tree = ast.parse((PACKAGE / file).read_text())
    return {node.name: node for node in tree.body if isinstance(node, kind)}


def arguments_of(function):
    return [argument.arg for argument in function.args.args]


class Interface(unittest.TestCase):
    def test_functions(self):
        for file, text in FUNCTIONS.items():
            found = defined(file, ast.FunctionDef)
            for name, arguments in listed(text):
                with self.subTest(file=file, name=name):
                    self.assertIn(name, found)
                    self.assertEqual(arguments_of(found[name]), arguments)
                    self.assertEqual(found[name].args.defaults, [])

    def test_classes(self):
        for file, text in CLASSES.items():
            found = defined(file, ast.ClassDef)
            for name, arguments in listed(text):
                with self.subTest(file=file, name=name):
                    self.assertIn(name, found)
                    starts = [node for node in found[name].body if getattr(node, "name", "") == "__init__"]
                    given = [arguments_of(start)[1:] for start in starts]
                    self.assertIn(given, ([arguments], []) if not arguments else ([arguments],))

    def test_methods_stand_in_the_classes_themselves(self):
        for (file, owner), text in METHODS.items():
            body = defined(file, ast.ClassDef)[owner].body
            found = {node.name: node for node in body if isinstance(node, ast.FunctionDef)}
            for name, arguments in listed(text):
                with self.subTest(owner=owner, name=name):
                    self.assertIn(name, found)
                    self.assertEqual(arguments_of(found[name])[1:], arguments)
                    self.assertEqual(found[name].args.defaults, [])
