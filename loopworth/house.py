"""A house: things on a shelf under names, deeds that change them, questions about them."""

from loopworth.elements import added, element, is_element, product_of, scaled, turned_element, word_element
from loopworth.errors import BadDeed, BadName, LoopError, NothingDone, TooMany, UnknownName
from loopworth.fields import is_field, is_number, is_whole, number
from loopworth.halves import is_half
from loopworth.middles import has_middle
from loopworth.pictures import are_alike, flipped, is_picture, of_word, turned
from loopworth.pieces import pieces_of, size
from loopworth.traces import trace

MOST_NAMES = 12
MOST_LETTERS = 20
MOST_KEPT = 8
# The sorts of the parts of each deed: "new" and "old" are names, and a "worth" is a number of the
# field that is told ahead of it, a "number" one of any field.
DEEDS = {
    "room": ("new", "field", "worth", "many", "many"),
    "word": ("new", "many", "letters"),
    "picture": ("new", "half", "half"),
    "after": ("new", "old", "old"),
    "turn": ("new", "old"),
    "mirror": ("new", "old"),
    "drawn": ("new", "old"),
    "led": ("new", "old", "field", "worth"),
    "plus": ("new", "old", "old"),
    "times": ("new", "old", "old", "number"),
    "scaled": ("new", "old", "number"),
    "away": ("old",),
}
# The parts of each question, "any" where what it is about tells whether the part fits.
QUESTIONS = {
    "rank": ("old",),
    "pieces": ("old",),
    "middle": ("old",),
    "change": ("old", "old"),
    "alike": ("old", "old"),
    "round": ("old", "any"),
}


def is_name(value):
    """Return whether any value is a text of one to eight letters a to z."""
    return isinstance(value, str) and 1 <= len(value) <= 8 and all(["a" <= sign <= "z" for sign in value])


def is_thing(value):
    """Return whether any value is a thing that may stand on a shelf."""
    return _is_of_a_kind(value) and not _is_too_much(value)


def _is_of_a_kind(value):
    """Return whether any value is a thing, however many letters and figures there are in it."""
    if not isinstance(value, tuple) or len(value) != 2:
        return False
    kind, told = value
    if kind == "picture":
        return is_picture(told) and 1 <= len(told[0]) <= 8
    if not isinstance(told, tuple):
        return False
    if kind == "room":
        return len(told) == 4 and _is_room(told)
    if kind == "word":
        return len(told) == 2 and _is_word(told)
    return kind == "element" and len(told) == 3 and _is_sum(told)


def _is_room(told):
    p, d, n, k = told
    if not is_field(p) or not is_number(p, d):
        return False
    return is_whole(n) and is_whole(k) and 0 <= k <= n <= 60 and (n - k) % 2 == 0


def _is_word(told):
    n, letters = told
    if not is_whole(n) or not 1 <= n <= 8 or not isinstance(letters, tuple):
        return False
    return all([is_whole(i) and 0 <= i <= n - 2 for i in letters])


def _is_sum(told):
    p, n, members = told
    return is_field(p) and is_whole(n) and 1 <= n <= 4 and is_element(p, n, members)


def _is_too_much(thing):
    """Return whether a word has too many letters, or a share of an element too many figures."""
    kind, told = thing
    if kind == "word":
        return len(told[1]) > MOST_LETTERS
    if kind == "element" and told[0] == 0:
        # With more than twenty figures an integer is at least this.
        least = 10 ** 20
        return any([abs(u) >= least or e >= least for _, (u, e) in told[2]])
    return False


def parts_are_told(deed):
    """Return whether all parts of a deed but the names are of their sorts."""
    sorts = DEEDS[deed[0]]
    for at, sort in enumerate(sorts):
        # The sorts are looked at in order, so a field ahead of a worth is one.
        if sort not in ("new", "old") and not _is_of_sort(sort, deed[at + 1], deed[at]):
            return False
    return True


def _is_of_sort(sort, value, before):
    """Return whether any value is of a sort; before is what is told ahead of it."""
    if sort == "field":
        return is_field(value)
    if sort == "worth":
        return is_number(before, value)
    if sort == "number":
        # The numbers of the greatest prime field are those of all prime fields.
        return is_number(0, value) or is_number(13, value)
    if sort == "many":
        return is_whole(value) and 0 <= value <= 60
    if sort == "half":
        return is_half(value) and 1 <= len(value) <= 8
    if not isinstance(value, tuple) or len(value) > MOST_LETTERS:
        return False
    return all([is_whole(i) and 0 <= i <= 6 for i in value])


def after(shelf, deed):
    """Return the new shelf after a deed, any value."""
    sorts = DEEDS.get(_word_of(deed))
    if sorts is None or len(deed) != len(sorts) + 1:
        raise BadDeed()
    things = _things_at(shelf, sorts, deed)
    come = dict(shelf)
    if deed[0] == "away":
        del come[deed[1]]
        return come
    thing = _thing_by(deed, things) if parts_are_told(deed) else None
    if not _is_of_a_kind(thing):
        raise BadDeed()
    come[deed[1]] = thing
    if len(come) > MOST_NAMES or _is_too_much(thing):
        raise TooMany()
    return come


def _word_of(value):
    """Return the text that any value begins with if it is a tuple, or a text without signs."""
    if isinstance(value, tuple) and len(value) > 0 and isinstance(value[0], str):
        return value[0]
    return ""


def _things_at(shelf, sorts, told):
    """Return the things that stand under the old names of a deed or a question."""
    things = []
    for sort, part in zip(sorts, told[1:]):
        if sort == "new" and not is_name(part):
            raise BadName(part)
        if sort == "old":
            if not is_name(part) or part not in shelf:
                raise UnknownName(part)
            things.append(shelf[part])
    return things


def _thing_by(deed, things):
    """Return what comes of a deed with the things it names, None if it tells nothing of such ones."""
    word = deed[0]
    if word in ("room", "word", "picture"):
        return (word, deed[2:])
    if word == "led":
        return _led(things[0], deed[3], deed[4])
    if word in ("turn", "mirror", "drawn"):
        return _changed(word, things[0])
    kinds = [kind for kind, _ in things]
    if word == "after":
        return _joined_words(things) if kinds == ["word", "word"] else None
    if kinds == ["element"] * len(kinds):
        return _reckoned(deed, [told for _, told in things])
    return None


def _led(thing, p, d):
    """Return the element of the picture of a word or of a picture, None of other things."""
    kind, told = thing
    if kind == "word":
        n, letters = told
        return ("element", (p, n, word_element(p, d, n, letters)))
    if kind == "picture":
        return ("element", (p, len(told[0]), ((told, number(p, 1)),)))
    return None


def _changed(word, thing):
    """Return a thing turned, mirrored or drawn, None if it is none that can be."""
    kind, told = thing
    if kind == "word":
        n, letters = told
        if word == "drawn":
            return ("picture", of_word(n, letters)[1])
        return ("word", (n, letters[::-1] if word == "turn" else tuple([n - 2 - i for i in letters])))
    if kind == "picture" and word != "drawn":
        return ("picture", turned(told) if word == "turn" else flipped(told))
    if kind == "element" and word != "drawn":
        p, n, members = told
        if word == "turn":
            return ("element", (p, n, turned_element(members)))
        return ("element", (p, n, element(p, [(flipped(picture), x) for picture, x in members])))
    return None


def _joined_words(things):
    """Return the word with the letters of two words of one number of points, else None."""
    (_, (n, letters)), (_, (m, further)) = things
    return ("word", (n, letters + further)) if n == m else None


def _reckoned(deed, sums):
    """Return what comes of elements that are added, put above one another or scaled, None if they don't fit."""
    p, n, members = sums[0]
    if deed[0] == "scaled":
        return ("element", (p, n, scaled(p, members, deed[3]))) if is_number(p, deed[3]) else None
    if sums[1][:2] != (p, n):
        return None
    others = sums[1][2]
    if deed[0] == "plus":
        return ("element", (p, n, added(p, members, others)))
    return ("element", (p, n, product_of(p, deed[4], members, others))) if is_number(p, deed[4]) else None


def ask(shelf, question):
    """Return the answer to a question, any value."""
    sorts = QUESTIONS.get(_word_of(question))
    if sorts is None or len(question) != len(sorts) + 1:
        raise BadDeed()
    things = _things_at(shelf, sorts, question)
    if question[0] == "alike":
        answer = _are_equal(things)
    elif question[0] == "round":
        answer = _closed_to(things[0], question[2])
    else:
        answer = _told_of_rooms(question[0], things)
    if answer is None:
        raise BadDeed()
    return answer


def _are_equal(things):
    """Return whether two words, pictures or elements are alike, None if they are no such two."""
    (kind, told), (other_kind, other) = things
    if kind != other_kind or kind == "room":
        return None
    if kind != "word":
        return told == other
    (n, letters), (m, others) = told, other
    return are_alike(n, letters, others) if n == m else None


def _closed_to(thing, d):
    """Return the trace of an element, None if the thing is none, or d no number of its field."""
    kind, told = thing
    if kind != "element" or not is_number(told[0], d):
        return None
    return trace(told[0], d, told[2])


def _told_of_rooms(word, things):
    """Return the answer to a question about one room or two, None if the things are no rooms."""
    if any([kind != "room" for kind, _ in things]):
        return None
    p, d, n, k = things[0][1]
    if word == "rank":
        return size(p, d, n, k)
    if word == "pieces":
        return pieces_of(p, d, n, k)
    if word == "middle":
        return n == 0 or has_middle(p, d, n)
    q, worth, points, ends = things[1][1]
    pieces, others = pieces_of(p, d, n, k), pieces_of(q, worth, points, ends)
    gone = tuple([r for r in pieces if r not in others])
    come = tuple([r for r in others if r not in pieces])
    return (size(p, d, n, k), size(q, worth, points, ends), gone, come)


class House:
    """A shelf with its moments: what was done, taken back, asked and kept."""

    def __init__(self):
        self._moments = [{}]
        self._deeds = []
        self._done = 0
        self._kept = {}

    def shelf(self):
        """Return a copy of the shelf as it is now."""
        return dict(self._moments[self._done])

    def log(self):
        """Return the list of the deeds that stand done."""
        return self._deeds[:self._done]

    def do(self, deed):
        """Do a deed, and return how many stand done then."""
        moment = after(self._moments[self._done], deed)
        self._moments = self._moments[:self._done + 1] + [moment]
        self._deeds = self._deeds[:self._done] + [deed]
        self._done += 1
        return self._done

    def undo(self):
        """Take back the last deed that stands done, and return how many stand done then."""
        if self._done == 0:
            raise NothingDone()
        self._done -= 1
        return self._done

    def redo(self):
        """Do the last deed again that was taken back, and return how many stand done then."""
        if self._done == len(self._deeds):
            raise NothingDone()
        self._done += 1
        return self._done

    def keep(self, label, question):
        """Ask a question, keep it with its answer under a label, and return the answer."""
        if not is_name(label) or label in self._kept:
            raise BadName(label)
        answer = ask(self._moments[self._done], question)
        if len(self._kept) == MOST_KEPT:
            raise TooMany()
        self._kept[label] = (question, answer)
        return answer

    def labels(self):
        """Return the ascending list of the labels."""
        return sorted(self._kept)

    def today(self, label):
        """Return whether a kept question has the same answer now, another one, or none."""
        if not is_name(label) or label not in self._kept:
            raise UnknownName(label)
        question, before = self._kept[label]
        try:
            answer = ask(self._moments[self._done], question)
        except LoopError:
            return ("gone",)
        return ("same",) if answer == before else ("else", answer)
