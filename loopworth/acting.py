"""What pictures make of halves and of vectors of a room: meets, closures, ways from vector to half."""

from loopworth.fields import is_number, number, over, plus, power, sum_of_products, times
from loopworth.halves import count, halves
from loopworth.pictures import arc, is_picture, joined, laid
from loopworth.ranks import is_row, reduced
from loopworth.rooms import values_of


def is_vector(p, n, k, value):
    """Return whether any value is a vector of the room of n and k."""
    return is_row(p, count(n, k), value)


def unit_of(p, n, k, half):
    """Return the vector with one at a half of the room and nought elsewhere."""
    return tuple([number(p, 1 if other == half else 0) for other in halves(n, k)])


def under(picture, half):
    """Lay a picture above a half: return the loops that are closed, and the half that comes so."""
    top, bottom = picture
    loops, back, _ = laid(bottom, half)
    return (loops, joined(top, back))


def acted(p, d, n, k, picture, vector):
    """Return the vector that a picture makes of a vector of the room."""
    return _made_of(p, _led(p, d, n, k, picture), vector)


def _led(p, d, n, k, picture):
    """Return for each half of the room where it is led and what it is taken times there.

    The place is None where nothing comes.
    """
    room = halves(n, k)
    places = {half: place for place, half in enumerate(room)}
    led = []
    for half in room:
        # What comes never has more loose ends, and the halves with fewer are not of the room.
        loops, come = under(picture, half)
        led.append((places.get(come), power(p, d, loops)))
    return led


def _made_of(p, led, vector):
    """Return the vector that comes of one whose halves are led as told."""
    come = [number(p, 0)] * len(led)
    for (place, factor), x in zip(led, vector):
        if place is not None:
            come[place] = plus(p, come[place], times(p, factor, x))
    return tuple(come)


def matrix_of(p, d, n, k, picture):
    """Return the tuple of what a picture makes of the unit of each half of the room."""
    led = _led(p, d, n, k, picture)
    return tuple([_made_of(p, led, unit_of(p, n, k, half)) for half in halves(n, k)])


def meet(p, d, n, k, one, other):
    """Return the sum of one's numbers times other's times the values of their halves."""
    return sum_of_products(p, values_of(p, d, n, k, one), other)


def closure(p, d, n, k, vectors):
    """Return the reduced rows of all that is made of vectors and of what pictures make of them."""
    arcs = [_led(p, d, n, k, arc(n, i)) for i in range(n - 1)]
    rows = reduced(p, vectors)
    fresh = rows
    while fresh:
        come = [_made_of(p, led, row) for row in fresh for led in arcs]
        found = reduced(p, rows + come)
        # What arcs make of the other rows was there already.
        fresh = [row for row in found if row not in rows]
        rows = found
    return rows


def is_closed(p, d, n, k, vectors):
    """Return whether all that pictures make of the vectors is made of the vectors."""
    return closure(p, d, n, k, vectors) == reduced(p, vectors)


def brings(p, d, n, k, vector):
    """Return () for a nought row, else the first half with a value that is not nought, and this value."""
    for half, x in zip(halves(n, k), values_of(p, d, n, k, vector)):
        if x != number(p, 0):
            return (half, x)
    return ()


def way_to(p, d, n, k, vector, half):
    """Return a picture and a number that make the unit of a half of a vector, None for a nought row."""
    told = brings(p, d, n, k, vector)
    if told == ():
        return None
    y, x = told
    return ((half, y), over(p, number(p, 1), x))


def judge_way(p, d, n, k, vector, half, value):
    """Return None if any value is a way from the vector to the half, else the first fault."""
    if value is None:
        told = brings(p, d, n, k, vector)
        return None if told == () else ("there",) + told
    if not _is_way_form(p, n, value):
        return ("form",)
    picture, x = value
    come = tuple([times(p, y, x) for y in acted(p, d, n, k, picture, vector)])
    return None if come == unit_of(p, n, k, half) else ("comes", come)


def _is_way_form(p, n, value):
    """Return whether any value is a tuple of a picture of n points and a number of the field."""
    if not isinstance(value, tuple) or len(value) != 2:
        return False
    picture, x = value
    return is_picture(picture) and len(picture[0]) == n and is_number(p, x)
