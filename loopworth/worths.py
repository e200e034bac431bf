"""Worths of loops: their rows of terms, and the lengths after which a term is nought."""

from loopworth.fields import is_whole, minus, number, times


def worth_row(p, d, m):
    """Return the list of the terms from number 0 to number m."""
    row = [number(p, 1), d]
    while len(row) <= m:
        row.append(minus(p, times(p, d, row[-1]), row[-2]))
    return row[:m + 1]


def term(p, d, m):
    """Return the term number m alone, p a prime."""
    # With the length l the term number l is 1 or -1, as the square of any term less the product
    # of its neighbours is one; so the row comes again after 2 l terms.
    return worth_row(p, d, m % (2 * length(p, d)))[-1]


def length(p, d):
    """Return the length of d, None if there is none."""
    # No length is above p + 1, and those of fractions are at most 3.
    longest = p + 1 if p else 3
    row = worth_row(p, d, longest - 1)
    nought = number(p, 0)
    return row.index(nought) + 1 if nought in row else None


def judge_length(p, d, value):
    """Return None if value is what length tells, else the first fault."""
    if value is not None and not (is_whole(value) and value >= 2):
        return ("form",)
    right = length(p, d)
    if value == right:
        return None
    if right is None:
        return ("none",)
    if value is None or value > right:
        return ("early", right)
    return ("term", worth_row(p, d, value - 1)[-1])


def lengths_of(p):
    """Return the list of the lengths of the worths 0 to p - 1, p a prime."""
    return [length(p, d) for d in range(p)]


def worths_of(p, l):
    """Return the ascending tuple of all worths of the field with the length l."""
    return tuple([d for d in _worths_with_length(p) if length(p, d) == l])


def _worths_with_length(p):
    if p == 0:
        return [number(0, n) for n in (-1, 0, 1)]
    return list(range(p))
