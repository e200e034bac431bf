"""Rooms: the values of halves that are laid face to face, and their tables."""

from loopworth.fields import number, power, sum_of_products
from loopworth.halves import halves, loose
from loopworth.pictures import glue


def value(p, d, one, other):
    """Return the value of two halves of equally many points, each loop being worth d."""
    loops, ends = glue(one, other)
    if loose(one) == ends and loose(other) == ends:
        return power(p, d, loops)
    return number(p, 0)


def table(p, d, n, k):
    """Return the tuple of the rows of values of all halves of n points with k loose ends."""
    room = halves(n, k)
    return tuple([tuple([value(p, d, one, other) for other in room]) for one in room])


def values_of(p, d, n, k, row):
    """Return for each half of the room the sum of the row's numbers times its values."""
    # The table is the same if rows and columns are exchanged, so its rows may stand for columns.
    return tuple([sum_of_products(p, row, column) for column in table(p, d, n, k)])
