"""Elements: sums of pictures with numbers of a field, told by tuples of pairs."""

from loopworth.fields import is_number, number, plus, power, times
from loopworth.pictures import is_picture, of_word, product, turned


def is_element(p, n, value):
    """Return whether any value is an element of just n points over the field p."""
    if not isinstance(value, tuple):
        return False
    if not all([_is_member(p, n, pair) for pair in value]):
        return False
    return all([before[0] < behind[0] for before, behind in zip(value, value[1:])])


def _is_member(p, n, pair):
    if not isinstance(pair, tuple) or len(pair) != 2:
        return False
    picture, x = pair
    if not is_picture(picture) or len(picture[0]) != n:
        return False
    return is_number(p, x) and x != number(p, 0)


def element(p, pairs):
    """Return the element with the sums of the numbers that stand beside each picture."""
    shares = {}
    for picture, x in pairs:
        shares[picture] = plus(p, shares.get(picture, number(p, 0)), x)
    return tuple([(picture, shares[picture]) for picture in sorted(shares) if shares[picture] != number(p, 0)])


def of_row(p, some, row):
    """Return the element with a row's numbers at some pictures, each told once."""
    return element(p, list(zip(some, row)))


def share(p, one, picture):
    """Return the number beside a picture in an element, nought if there is none."""
    for other, x in one:
        if other == picture:
            return x
    return number(p, 0)


def added(p, one, other):
    return element(p, one + other)


def scaled(p, one, x):
    """Return the element with all shares times a number."""
    return element(p, [(picture, times(p, y, x)) for picture, y in one])


def product_of(p, d, one, other):
    """Return one element put above another one, each loop being worth d."""
    pairs = []
    for above, x in one:
        for below, y in other:
            loops, picture = product(above, below)
            pairs.append((picture, times(p, times(p, x, y), power(p, d, loops))))
    return element(p, pairs)


def word_element(p, d, n, word):
    """Return the element of the picture of a word, its share being d for each loop."""
    loops, picture = of_word(n, word)
    return element(p, [(picture, power(p, d, loops))])


def turned_element(one):
    """Return the element with all its pictures turned."""
    # Each picture stands there once, so the numbers do not tell in the order.
    return tuple(sorted([(turned(picture), x) for picture, x in one]))
