"""What a house should answer, worked out anew: things, deeds, questions and texts."""

import re
from fractions import Fraction

from loopworth.fields import is_field, is_number, number
from loopworth.middles import has_middle
from loopworth.pictures import is_picture
from loopworth.pieces import pieces_of
from loopworth.ranks import table_rank
from tests import by_hand

NAME = re.compile("[a-z]{1,8}")
PARTS = {
    "room": "apdnk", "word": "anl", "picture": "ahh", "after": "abb", "turn": "ab", "mirror": "ab", "drawn": "ab",
    "led": "abpd", "plus": "abb", "times": "abbx", "scaled": "abx", "away": "b",
}
ASKED = {"rank": "b", "pieces": "b", "middle": "b", "change": "bb", "alike": "bb", "round": "bx"}


def is_name(value):
    return type(value) is str and NAME.fullmatch(value) is not None


def is_int(value, least, most):
    return type(value) is int and least <= value <= most


def is_element(p, n, value):
    if type(value) is not tuple or not all(type(pair) is tuple and len(pair) == 2 for pair in value):
        return False
    if not all(is_picture(picture) and len(picture[0]) == n for picture, _ in value):
        return False
    found = [picture for picture, _ in value]
    return found == sorted(set(found)) and all(is_number(p, x) and x != number(p, 0) for _, x in value)


def faults(value):
    """The faults of a thing: "no" if it is none for whatever reason, else "many" where there is too much in it."""
    if type(value) is not tuple or len(value) != 2 or type(value[1]) is not tuple:
        return {"no"}
    kind, told = value
    if kind == "room" and len(told) == 4:
        p, d, n, k = told
        right = is_field(p) and is_number(p, d) and is_int(n, 0, 60) and is_int(k, 0, n) and (n - k) % 2 == 0
        return set() if right else {"no"}
    if kind == "word" and len(told) == 2:
        n, letters = told
        if not is_int(n, 1, 8) or type(letters) is not tuple or not all(is_int(i, 0, n - 2) for i in letters):
            return {"no"}
        return {"many"} if len(letters) > 20 else set()
    if kind == "picture":
        return set() if is_picture(told) and 1 <= len(told[0]) <= 8 else {"no"}
    if kind == "element" and len(told) == 3:
        p, n, members = told
        if not is_field(p) or not is_int(n, 1, 4) or not is_element(p, n, members):
            return {"no"}
        wholes = [u for _, x in members for u in (x if p == 0 else (x,))]
        return {"many"} if any(len(str(abs(u))) > 20 for u in wholes) else set()
    return {"no"}


def of_sort(sort, value, before):
    if sort == "p":
        return is_field(value)
    if sort == "d":
        return is_number(before, value)
    if sort == "x":
        return any(is_number(p, value) for p in (0, 2, 3, 5, 7, 11, 13))
    if sort in "nk":
        return is_int(value, 0, 60)
    if sort == "l":
        return type(value) is tuple and len(value) <= 20 and all(is_int(i, 0, 6) for i in value)
    return by_hand.is_half(value) and 1 <= len(value) <= 8


def added_up(p, pairs):
    sums = {}
    for picture, x in pairs:
        sums[picture] = sums.get(picture, Fraction(0) if p == 0 else 0) + x
    found = [(picture, by_hand.told(p, sums[picture])) for picture in sorted(sums)]
    return tuple(pair for pair in found if pair[1] != number(p, 0))


def plain_pairs(p, members):
    return [(picture, by_hand.plain(p, x)) for picture, x in members]


def picture_of(n, letters):
    loops, picture = 0, ("|" * n, "|" * n)
    for i in letters:
        half = "|" * i + "()" + "|" * (n - i - 2)
        closed, picture = by_hand.product(picture, (half, half))
        loops += closed
    return loops, picture


def over_again(text):
    return text[::-1].translate(str.maketrans("()", ")("))


def comes(deed, things):
    """The thing that a deed makes of things, or None."""
    word = deed[0]
    kinds = [kind for kind, _ in things]
    if word in ("room", "word", "picture"):
        return word, deed[2:]
    if word == "after" and kinds == ["word", "word"] and things[0][1][0] == things[1][1][0]:
        return "word", (things[0][1][0], things[0][1][1] + things[1][1][1])
    if word == "drawn" and kinds == ["word"]:
        return "picture", picture_of(*things[0][1])[1]
    if word == "led" and kinds[0] in ("word", "picture"):
        p, d = deed[3:]
        loops, picture = picture_of(*things[0][1]) if kinds[0] == "word" else (0, things[0][1])
        return "element", (p, len(picture[0]), added_up(p, [(picture, by_hand.power(p, d, loops))]))
    if word in ("turn", "mirror") and kinds[0] != "room":
        kind, told = things[0]
        if kind == "word":
            n, letters = told
            return "word", (n, tuple(reversed(letters)) if word == "turn" else tuple(n - 2 - i for i in letters))
        if kind == "picture":
            return "picture", changed(word, told)
        p, n, members = told
        return "element", (p, n, tuple(sorted((changed(word, picture), x) for picture, x in members)))
    if set(kinds) == {"element"} and word in ("plus", "times", "scaled"):
        return reckoned(deed, [told for _, told in things])
    return None


def changed(word, picture):
    top, bottom = picture
    return (bottom, top) if word == "turn" else (over_again(top), over_again(bottom))


def reckoned(deed, told):
    p, n, members = told[0]
    if len({(q, m) for q, m, _ in told}) > 1:
        return None
    one = plain_pairs(p, members)
    if deed[0] == "plus":
        return "element", (p, n, added_up(p, one + plain_pairs(p, told[1][2])))
    if not is_number(p, deed[-1]):
        return None
    x = by_hand.plain(p, deed[-1])
    if deed[0] == "scaled":
        return "element", (p, n, added_up(p, [(picture, y * x) for picture, y in one]))
    pairs = []
    for above, y in one:
        for below, z in plain_pairs(p, told[1][2]):
            loops, picture = by_hand.product(above, below)
            pairs.append((picture, y * z * x ** loops))
    return "element", (p, n, added_up(p, pairs))


def after(shelf, deed):
    """The new shelf, or the name of the error and what it bears."""
    if type(deed) is not tuple or not deed or type(deed[0]) is not str or deed[0] not in PARTS:
        return ("BadDeed",)
    sorts = PARTS[deed[0]]
    if len(deed) != len(sorts) + 1:
        return ("BadDeed",)
    if sorts[0] == "a" and not is_name(deed[1]):
        return ("BadName", deed[1])
    there = [part for sort, part in zip(sorts, deed[1:]) if sort == "b"]
    for part in there:
        if type(part) is not str or part not in shelf:
            return ("UnknownName", part)
    if deed[0] == "away":
        return {name: thing for name, thing in shelf.items() if name != deed[1]}
    for at, sort in enumerate(sorts):
        if sort not in "ab" and not of_sort(sort, deed[at + 1], deed[at]):
            return ("BadDeed",)
    thing = comes(deed, [shelf[part] for part in there])
    told = {"no"} if thing is None else faults(thing)
    if told == {"no"}:
        return ("BadDeed",)
    if told or (len(shelf) == 12 and deed[1] not in shelf):
        return ("TooMany",)
    return {**shelf, deed[1]: thing}


def ask(shelf, question):
    """The answer in a tuple behind "is", or the name of the error and what it bears."""
    if type(question) is not tuple or not question or type(question[0]) is not str or question[0] not in ASKED:
        return ("BadDeed",)
    if len(question) != len(ASKED[question[0]]) + 1:
        return ("BadDeed",)
    there = [part for sort, part in zip(ASKED[question[0]], question[1:]) if sort == "b"]
    for part in there:
        if type(part) is not str or part not in shelf:
            return ("UnknownName", part)
    word, things = question[0], [shelf[part] for part in there]
    kinds, told = [kind for kind, _ in things], [thing for _, thing in things]
    if word == "round":
        if kinds != ["element"] or not is_number(told[0][0], question[2]):
            return ("BadDeed",)
        p, _, members = told[0]
        total = Fraction(0) if p == 0 else 0
        for picture, x in plain_pairs(p, members):
            total += x * by_hand.power(p, question[2], by_hand.loops_round(picture))
        return "is", by_hand.told(p, total)
    if word == "alike":
        if kinds[0] != kinds[1] or kinds[0] == "room" or (kinds[0] == "word" and told[0][0] != told[1][0]):
            return ("BadDeed",)
        return "is", picture_of(*told[0]) == picture_of(*told[1]) if kinds[0] == "word" else told[0] == told[1]
    if set(kinds) != {"room"}:
        return ("BadDeed",)
    if word == "rank":
        return "is", table_rank(*told[0])
    if word == "pieces":
        return "is", pieces_of(*told[0])
    if word == "middle":
        return "is", told[0][2] == 0 or has_middle(*told[0][:3])
    one, other = [set(pieces_of(*room)) for room in told]
    return "is", (table_rank(*told[0]), table_rank(*told[1]), tuple(sorted(one - other)), tuple(sorted(other - one)))


WHOLE = "(0|[1-9][0-9]{0,59})"
FRACTION = "(0/1|-?[1-9][0-9]{0,59}/[1-9][0-9]{0,59})"


def read(text):
    """The deed of which a text is the text, or None."""
    if type(text) is not str:
        return None
    word, *told = text.split(" ")
    if word not in PARTS or len(told) != len(PARTS[word]):
        return None
    parts = [word]
    for sort, part in zip(PARTS[word], told):
        if sort in "pnk" or (sort in "dx" and "/" not in part):
            parts.append(int(part) if re.fullmatch(WHOLE, part) else None)
        elif sort in "dx":
            parts.append(tuple(int(u) for u in part.split("/")) if re.fullmatch(FRACTION, part) else None)
        elif sort == "l":
            fits = part == "-" or re.fullmatch("[0-6]([.][0-6])*", part)
            parts.append(tuple(int(i) for i in part.replace("-", "").split(".") if i) if fits else None)
        else:
            parts.append(part)
    for at, sort in enumerate(PARTS[word]):
        right = is_name(parts[at + 1]) if sort in "ab" else of_sort(sort, parts[at + 1], parts[at])
        if not right:
            return None
    return tuple(parts)
