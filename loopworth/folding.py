"""Pictures folded to halves without loose ends, and closed round the side."""

from loopworth.errors import BadHalf
from loopworth.halves import halves, loose, mirrored, partners
from loopworth.pictures import glue, straight


def fold(picture):
    """Return the half of twice as many points, without loose ends, that a picture is folded to."""
    top, bottom = picture
    return top.replace("|", "(") + mirrored(bottom).replace("|", ")")


def unfold(half):
    """Return the picture that is folded to a half."""
    if loose(half) > 0:
        raise BadHalf(half)
    n = len(half) // 2
    # An arc between the first half of the points and the second one joins loose ends of a picture.
    signs = [
        "|" if (i < n) != (other < n) else sign for i, (sign, other) in enumerate(zip(half, partners(half)))
    ]
    return ("".join(signs[:n]), mirrored("".join(signs[n:])))


def pictures_by_folds(n):
    """Return the list of all pictures of n points in the order of their folds."""
    return [unfold(half) for half in halves(2 * n, 0)]


def loops_round(picture):
    """Return how many loops come of a picture whose points are joined round the side."""
    # Folded, the straight picture joins each point above with the point below it.
    return glue(fold(picture), fold(straight(len(picture[0]))))[0]


def closed_last(picture):
    """Join the last points above and below: return how many loops are closed, and what is left."""
    # Folded, the two lie side by side in the middle, and are left out there; if they are joined with
    # one another already, no others come to one another.
    half = fold(picture)
    above = len(picture[0]) - 1
    left, right = partners(half)[above], partners(half)[above + 1]
    signs = list(half)
    signs[min(left, right)] = "("
    signs[max(left, right)] = ")"
    return (1 if left == above + 1 else 0, unfold("".join(signs[:above] + signs[above + 2:])))
