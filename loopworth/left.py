"""What is left of a room where nought rows count for nothing."""

from loopworth.acting import matrix_of
from loopworth.fields import minus, number, times
from loopworth.halves import halves
from loopworth.ranks import nought_basis
from loopworth.rooms import value, values_of


def left_halves(p, d, n, k):
    """Return the ascending list of the halves that no row of the nought basis leads with."""
    room = halves(n, k)
    return [room[place] for place in _left_places(p, nought_basis(p, d, n, k), len(room))]


def _left_places(p, basis, many):
    """Return the ascending list of the places that no row of a basis leads with."""
    led = [_lead(p, row) for row in basis]
    return [place for place in range(many) if place not in led]


def _lead(p, row):
    """Return the place of the first number that is not nought: in reduced rows it is one."""
    return row.index(number(p, 1))


def left_table(p, d, n, k):
    """Return the tuple with a tuple for each left half of its values with all left halves."""
    left = left_halves(p, d, n, k)
    return tuple([tuple([value(p, d, one, other) for other in left]) for one in left])


def rest_of(p, d, n, k, vector):
    """Return the vector left alike to a vector that has nought at all led places."""
    return _rest(p, nought_basis(p, d, n, k), vector)


def _rest(p, basis, vector):
    rest = vector
    for row in basis:
        # No other row of the basis has a number at this lead, so it stays nought from here on.
        often = rest[_lead(p, row)]
        rest = tuple([minus(p, x, times(p, often, y)) for x, y in zip(rest, row)])
    return rest


def are_left_alike(p, d, n, k, one, other):
    """Return whether one vector less the other is a nought row."""
    return values_of(p, d, n, k, one) == values_of(p, d, n, k, other)


def left_matrix(p, d, n, k, picture):
    """Return for each left half the rest, at the left halves, of what a picture makes of its unit."""
    basis = nought_basis(p, d, n, k)
    matrix = matrix_of(p, d, n, k, picture)
    left = _left_places(p, basis, len(matrix))
    rests = [_rest(p, basis, matrix[place]) for place in left]
    return tuple([tuple([rest[place] for place in left]) for rest in rests])
