"""Fields and their numbers: fractions (u, e) for 0, whole numbers modulo p for a prime p."""

from math import gcd

FIELDS = (0, 2, 3, 5, 7, 11, 13)


def is_whole(value):
    """Return whether a value is an integer; True and False are none here."""
    return isinstance(value, int) and not isinstance(value, bool)


def is_field(value):
    return is_whole(value) and value in FIELDS


def is_number(p, value):
    if p == 0:
        return _is_fraction(value)
    return is_whole(value) and 0 <= value < p


def _is_fraction(value):
    if not isinstance(value, tuple) or len(value) != 2:
        return False
    u, e = value
    return is_whole(u) and is_whole(e) and e >= 1 and gcd(u, e) == 1


def number(p, n):
    """Return the number of the field that n ones make."""
    if p == 0:
        return (n, 1)
    return n % p


def plus(p, x, y):
    if p == 0:
        (u, e), (v, f) = x, y
        return _shortened(u * f + v * e, e * f)
    return (x + y) % p


def minus(p, x, y):
    if p == 0:
        (u, e), (v, f) = x, y
        return _shortened(u * f - v * e, e * f)
    return (x - y) % p


def times(p, x, y):
    if p == 0:
        (u, e), (v, f) = x, y
        return _shortened(u * v, e * f)
    return x * y % p


def over(p, x, y):
    """Return the number that times y is x; y is not nought."""
    if p == 0:
        (u, e), (v, f) = x, y
        return _shortened(u * f, e * v)
    # y taken p - 1 times as a factor is one modulo p (Fermat), so once less is one over y.
    return x * power(p, y, p - 2) % p


def power(p, x, m):
    """Return x taken m times as a factor: one for m 0, also of nought."""
    answer = number(p, 1)
    for _ in range(m):
        answer = times(p, answer, x)
    return answer


def sum_of_products(p, xs, ys):
    """Return the sum of the products of two rows' numbers, place by place."""
    total = number(p, 0)
    for x, y in zip(xs, ys):
        total = plus(p, total, times(p, x, y))
    return total


def _shortened(u, e):
    """Return the fraction u over e, where e is not 0, as the number that it is."""
    divisor = gcd(u, e)
    if e < 0:
        divisor = -divisor
    return (u // divisor, e // divisor)
