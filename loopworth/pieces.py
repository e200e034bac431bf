"""Pieces: what rooms of halves fall into, their sizes, and what tables lose and keep."""

from loopworth.digits import holds, next_over
from loopworth.halves import count
from loopworth.worths import length


def size(p, d, n, r):
    """Return the size of the piece r among n points, 0 if there is none."""
    return _size_table(p, d, n).get(r, 0)


def _size_table(p, d, n):
    """Return the dict of the sizes for all r from n down, also of those that are 0."""
    l = length(p, d)
    found = {}
    for r in range(n, -1, -2):
        others = sum([found[s] for s in found if holds(p, l, r, s)])
        found[r] = count(n, r) - others
    return found


def sizes(p, d, n):
    """Return the list of the pairs (r, size) of all pieces among n points, from r = n down."""
    table = _size_table(p, d, n)
    return [(r, table[r]) for r in table if table[r] != 0]


def pieces_of(p, d, n, k):
    """Return the ascending tuple of the pieces that the room of n and k falls into."""
    l = length(p, d)
    return tuple(sorted([r for r, _ in sizes(p, d, n) if holds(p, l, k, r)]))


def keeps_all(p, d, n, k):
    """Return whether the table of the room loses nothing, told without the table."""
    further = next_over(p, length(p, d), k)
    return further is None or further > n


def lost(p, d, n):
    """Return the ascending tuple of all k whose tables lose something."""
    return tuple([k for k in range(n % 2, n + 1, 2) if not keeps_all(p, d, n, k)])


def all_kept(p, d, n):
    return not lost(p, d, n)


def shares_of(p, d, n, r):
    """Return the ascending tuple of all k whose rooms of n points have the piece r."""
    if size(p, d, n, r) == 0:
        return ()
    l = length(p, d)
    return tuple([k for k in range(n % 2, n + 1, 2) if holds(p, l, k, r)])
