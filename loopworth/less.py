"""One point less: halves cut and joined, vectors split, pieces seen by one point less and by several."""

from loopworth.digits import holds
from loopworth.halves import halves, partner
from loopworth.pieces import size, sizes
from loopworth.worths import length


def cut(half):
    """Return the half of one point less, and whether a bracket was opened."""
    last = len(half) - 1
    left = partner(half, last)
    if left is None:
        return (half[:last], False)
    return (half[:left] + "|" + half[left + 1:last], True)


def join(rest, opened):
    """Return the half that is cut to a half and whether a bracket was opened."""
    if not opened:
        return rest + "|"
    # An arc to the new last point has no loose end beneath it, so it begins at the last one.
    left = rest.rfind("|")
    return rest[:left] + "(" + rest[left + 1:] + ")"


def grown(picture):
    """Return the picture with one more point at the right end, loose in both halves."""
    top, bottom = picture
    return (top + "|", bottom + "|")


def split(p, n, k, vector):
    """Return the vectors of one point less: at the halves that are not opened, and at those that are."""
    numbers = {half: x for half, x in zip(halves(n, k), vector)}
    low = tuple([numbers[join(rest, False)] for rest in _room(n - 1, k - 1)])
    high = tuple([numbers[join(rest, True)] for rest in _room(n - 1, k + 1)])
    return (low, high)


def put_together(p, n, k, low, high):
    """Return the vector of n points that is split to the two vectors of one point less."""
    numbers = {join(rest, False): x for rest, x in zip(_room(n - 1, k - 1), low)}
    for rest, x in zip(_room(n - 1, k + 1), high):
        numbers[join(rest, True)] = x
    return tuple([numbers[half] for half in halves(n, k)])


def _room(n, k):
    """Return the halves of n points with k loose ends, none for a k below 0."""
    return halves(n, k) if k >= 0 else []


def rooms_of(p, d, n, r):
    """Return the ascending list of the pairs (k, c) of rooms that come to the piece r alone."""
    return _rooms_to(_contents(p, d, n), r)


def _contents(p, d, n):
    """Return the dict of the lists of the pieces that each room of n points falls into."""
    l = length(p, d)
    pieces = [r for r, _ in sizes(p, d, n)]
    return {k: [r for r in pieces if holds(p, l, k, r)] for k in range(n % 2, n + 1, 2)}


def _rooms_to(contents, r):
    """Return the pairs (k, c) of rooms, with the pieces told, that come to the piece r alone."""
    # A room with a k that is a piece holds it once, and beside it pieces above k alone. So room by
    # room, from r on, the piece k of the rooms that are taken already is taken away.
    taken = []
    for k in sorted(contents):
        if k >= r and k in contents[k]:
            there = sum([c for room, c in taken if k in contents[room]])
            wanted = (1 if k == r else 0) - there
            if wanted != 0:
                taken.append((k, wanted))
    return taken


def times(p, d, n, r):
    """Return the pairs (s, many): how often pieces of one point less stand in the piece r."""
    return _seen(_contents(p, d, n), _contents(p, d, n - 1), r)


def _seen(contents, below, r):
    """Return how often pieces of one point less stand in the piece r, the rooms' pieces being told."""
    often = {}
    for k, c in _rooms_to(contents, r):
        for s in below.get(k - 1, []) + below.get(k + 1, []):
            often[s] = often.get(s, 0) + c
    return [(s, often[s]) for s in sorted(often) if often[s] != 0]


def times_down(p, d, n, r, m):
    """Return the pairs (s, many): how often pieces of m points less stand in the piece r."""
    often = {r: 1} if size(p, d, n, r) != 0 else {}
    contents = _contents(p, d, n)
    for fewer in range(1, m + 1):
        below = _contents(p, d, n - fewer)
        come = {}
        for piece in often:
            for s, many in _seen(contents, below, piece):
                come[s] = come.get(s, 0) + often[piece] * many
        often, contents = come, below
    return [(s, often[s]) for s in sorted(often)]


def falls_apart(p, d, n, r):
    """Return whether more than one piece of one point less stands in the piece r."""
    return sum([many for _, many in times(p, d, n, r)]) > 1
