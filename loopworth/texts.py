"""Texts of pictures, elements, things and deeds, and deeds read back."""

from loopworth.errors import BadText
from loopworth.house import DEEDS, is_name, parts_are_told

MOST_DIGITS = 60


def picture_text(picture):
    """Return top, a stroke and bottom."""
    top, bottom = picture
    return top + "/" + bottom


# The interface calls this argument by the name of a builtin, which no argument may have.
def element_text(one):
    """Return the text of an element, "0" without pictures."""
    return " + ".join([_number_text(x) + "*" + picture_text(picture) for picture, x in one]) or "0"


def _number_text(x):
    """Return the text of an integer, or of a fraction."""
    if isinstance(x, tuple):
        u, e = x
        return str(u) + "/" + str(e)
    return str(x)


def _letters_text(letters):
    return ".".join([str(i) for i in letters]) or "-"


def thing_text(thing):
    """Return the text of a thing."""
    kind, told = thing
    if kind == "picture":
        words = [picture_text(told)]
    elif kind == "word":
        n, letters = told
        words = [str(n), _letters_text(letters)]
    elif kind == "room":
        words = [_number_text(x) for x in told]
    else:
        p, n, members = told
        words = [str(p), str(n), element_text(members)]
    return " ".join([kind] + words)


def deed_text(deed):
    """Return the text of a deed whose names are names and whose other parts are of their sorts."""
    words = [_part_text(sort, part) for sort, part in zip(DEEDS[deed[0]], deed[1:])]
    return " ".join([deed[0]] + words)


def _part_text(sort, part):
    if sort == "letters":
        return _letters_text(part)
    return part if sort in ("new", "old", "half") else _number_text(part)


def read_deed(text):
    """Return the deed of which any value is the text."""
    words = text.split(" ") if isinstance(text, str) else [""]
    sorts = DEEDS.get(words[0])
    if sorts is None or len(words) != len(sorts) + 1:
        raise BadText(0)
    deed = tuple(words[:1] + [_part_read(sort, word) for sort, word in zip(sorts, words[1:])])
    names = [part for sort, part in zip(sorts, deed[1:]) if sort in ("new", "old")]
    if not all([is_name(name) for name in names]) or not parts_are_told(deed):
        raise BadText(0)
    # A number might have been written in another way.
    if deed_text(deed) != text:
        raise BadText(0)
    return deed


def _part_read(sort, word):
    """Return what a word tells of a part of a sort; where it tells none, what is not of the sort."""
    if sort in ("new", "old", "half"):
        return word
    if sort == "letters":
        return () if word == "-" else tuple([_whole_read(letter) for letter in word.split(".")])
    if "/" not in word:
        return _whole_read(word)
    above, _, below = word.partition("/")
    return (_signed_read(above), _whole_read(below))


def _signed_read(text):
    if not text.startswith("-"):
        return _whole_read(text)
    whole = _whole_read(text[1:])
    return None if whole is None else 0 - whole


def _whole_read(text):
    """Return the integer that digits tell, None if a text has other signs, none, or too many."""
    if not 1 <= len(text) <= MOST_DIGITS or not all([sign in "0123456789" for sign in text]):
        return None
    return int(text)
