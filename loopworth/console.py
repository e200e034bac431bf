"""A console: a house that is spoken to by lines of text."""

from loopworth.errors import BadText, LoopError
from loopworth.house import House, is_name
from loopworth.texts import read_deed, thing_text


class Console:
    """A house of its own, and what it answers to lines."""

    def __init__(self):
        self._house = House()

    def house(self):
        """Return the house itself."""
        return self._house

    def say(self, line):
        """Return the answer to a line, any value."""
        if not isinstance(line, str):
            return "what"
        try:
            return self._answer(line)
        except BadText:
            return "what"
        except LoopError:
            return "refused"

    def _answer(self, line):
        if line == "undo":
            return str(self._house.undo())
        if line == "redo":
            return str(self._house.redo())
        if line == "show":
            return " ".join(sorted(self._house.shelf()))
        if line.startswith("show ") and is_name(line[5:]):
            return self._shown(line[5:])
        return str(self._house.do(read_deed(line)))

    def _shown(self, name):
        thing = self._house.shelf().get(name)
        return "refused" if thing is None else thing_text(thing)
