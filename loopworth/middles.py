"""The middle: the element that all arcs bring to nought, and the bar that stands where there is none."""

from loopworth.digits import digits, holds
from loopworth.elements import element, is_element, product_of, share
from loopworth.errors import HasMiddle, NoMiddle
from loopworth.fields import is_whole, minus, number, power, sum_of_products
from loopworth.halves import count, halves
from loopworth.pictures import arc, product, straight
from loopworth.ranks import is_row, reduced, rows_to_nought
from loopworth.worths import length


def has_middle(p, d, n):
    """Return whether there is a middle of n points: whether n + 1 has just one digit other than 0."""
    return len([digit for digit in digits(p, length(p, d), n + 1) if digit != 0]) == 1


def middle(p, d, n):
    """Return the middle of n points."""
    if not has_middle(p, d, n):
        raise NoMiddle(_next_below(p, d, n))
    pairs = [(straight(n), number(p, 1))]
    for k in range(n - 2, -1, -2):
        pairs = pairs + _pairs_with(p, d, n, k, pairs)
    return element(p, pairs)


def _next_below(p, d, n):
    """Return the greatest k below n for which holds is true, where there is no middle of n points."""
    l = length(p, d)
    k = n - 2
    while not holds(p, l, k, n):
        k -= 2
    return k


def _pairs_with(p, d, n, k, pairs):
    """Return the pairs of the middle with k loose ends, where those with more of them are told.

    What an arc above makes of these goes against what it makes of the pairs that are told. No row of
    halves with k loose ends is brought to nought by all arcs (it would be a bar, and there is a middle),
    so this tells all numbers, and what the arcs make below them comes to nought, too.
    """
    room = halves(n, k)
    rows = []
    for i in range(n - 1):
        come = {picture: x for picture, x in product_of(p, d, _arc_alone(p, n, i), element(p, pairs))}
        for top, row in zip(room, _led_rows(p, d, n, k, i)):
            against = [minus(p, number(p, 0), come.get((top, bottom), number(p, 0))) for bottom in room]
            rows.append(row + tuple(against))
    solved = [row[len(room):] for row in reduced(p, rows)]
    return [((top, bottom), x) for top, row in zip(room, solved) for bottom, x in zip(room, row)]


def _arc_alone(p, n, i):
    return ((arc(n, i), number(p, 1)),)


def _led_rows(p, d, n, k, i):
    """Return for each half with k loose ends how often each of them is led to it by the arc i."""
    room = halves(n, k)
    led = [product(arc(n, i), (half, half)) for half in room]
    rows = []
    for target in room:
        # A half that is led to fewer loose ends comes to none of the room.
        rows.append(tuple([
            power(p, d, loops) if picture[0] == target else number(p, 0) for loops, picture in led
        ]))
    return rows


def bar(p, d, n):
    """Return the bar of n points with the most loose ends, its first number not nought being one."""
    if has_middle(p, d, n):
        raise HasMiddle()
    k = _next_below(p, d, n)
    rows = [row for i in range(n - 1) for row in _led_rows(p, d, n, k, i)]
    return (k, rows_to_nought(p, rows, count(n, k))[0])


def judge_middle(p, d, n, value):
    """Return None if any value is a middle of n points, else the first fault."""
    if not is_element(p, n, value):
        return ("form",)
    x = share(p, value, straight(n))
    if x != number(p, 1):
        return ("straight", x)
    for i in range(n - 1):
        if product_of(p, d, _arc_alone(p, n, i), value):
            return ("arc", i, "above")
        if product_of(p, d, value, _arc_alone(p, n, i)):
            return ("arc", i, "below")
    return None


def judge_bar(p, d, n, value):
    """Return None if any value is a bar of n points, else the first fault."""
    if not _is_bar_form(p, n, value):
        return ("form",)
    k, row = value
    if all([x == number(p, 0) for x in row]):
        return ("nought",)
    for i in range(n - 1):
        for led in _led_rows(p, d, n, k, i):
            if sum_of_products(p, row, led) != number(p, 0):
                return ("arc", i)
    return None


def _is_bar_form(p, n, value):
    """Return whether any value is a pair of a number of loose ends and a row for these halves."""
    if not isinstance(value, tuple) or len(value) != 2:
        return False
    k, row = value
    if not is_whole(k) or not 0 <= k <= n - 2 or (n - k) % 2 == 1:
        return False
    return is_row(p, count(n, k), row)
