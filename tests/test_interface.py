"""Each name of the interface stands in its file, defined there, with its arguments."""

import ast
import pathlib
import unittest

PACKAGE = pathlib.Path(__file__).resolve().parent.parent / "loopworth"

FUNCTIONS = {
    "fields.py": (
        "is_field(value); is_number(p, value); number(p, n); plus(p, x, y); minus(p, x, y); times(p, x, y); "
        "over(p, x, y)"
    ),
    "worths.py": (
        "worth_row(p, d, m); term(p, d, m); length(p, d); judge_length(p, d, value); lengths_of(p); worths_of(p, l)"
    ),
}
CLASSES = {
    "errors.py": (
        "LoopError(); NoMiddle(number); HasMiddle(); BadHalf(told); TooMany(); BadText(place); BadDeed(); "
        "BadName(name); UnknownName(name); NothingDone()"
    ),
}


def listed(text):
    """The pairs of a name and its arguments that a line of the interface lists."""
    for entry in text.split("; "):
        name, arguments = entry[:-1].split("(")
        yield name, [word for word in arguments.split(", ") if word]


def defined(file, kind):
    tree = ast.parse((PACKAGE / file).read_text())
    return {node.name: node for node in tree.body if isinstance(node, kind)}


def arguments_of(function):
    return [argument.arg for argument in function.args.args]


class Interface(unittest.TestCase):
    def test_functions(self):
        for file, text in FUNCTIONS.items():
            found = defined(file, ast.FunctionDef)
            for name, arguments in listed(text):
                with self.subTest(file=file, name=name):
                    self.assertIn(name, found)
                    self.assertEqual(arguments_of(found[name]), arguments)
                    self.assertEqual(found[name].args.defaults, [])

    def test_classes(self):
        for file, text in CLASSES.items():
            found = defined(file, ast.ClassDef)
            for name, arguments in listed(text):
                with self.subTest(file=file, name=name):
                    self.assertIn(name, found)
                    starts = [node for node in found[name].body if getattr(node, "name", "") == "__init__"]
                    given = [arguments_of(start)[1:] for start in starts]
                    self.assertEqual(given, [arguments] if arguments else [])
