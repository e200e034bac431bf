"""Digits of numbers, the lowest one below a length l, the further ones below the prime p."""


def digits(p, l, N):
    """Return the tuple of the digits of a number from 1 on, the lowest first."""
    if l is None:
        return (N,)
    told = [N % l]
    rest = N // l
    while rest > 0:
        if p == 0:
            told.append(rest)
            rest = 0
        else:
            told.append(rest % p)
            rest //= p
    return tuple(told)


def of_digits(p, l, told):
    """Return the number that a tuple of digits tells."""
    return sum(_parts(p, l, told))


def _parts(p, l, told):
    """Return the list of the digits times their places."""
    parts = []
    place = 1
    for digit in told:
        parts.append(digit * place)
        place = l if len(parts) == 1 else place * p
    return parts


def support(p, l, N):
    """Return the ascending tuple of the highest part with each lower one added or taken away."""
    parts = _parts(p, l, digits(p, l, N))
    found = [parts[-1]]
    for part in parts[:-1]:
        # Each part is more than all lower ones together, so no number comes twice.
        if part != 0:
            found = [x - part for x in found] + [x + part for x in found]
    return tuple(sorted(found))


def holds(p, l, k, r):
    """Return whether k + 1 is in the support of r + 1."""
    if k >= r or (r - k) % 2 == 1:
        return k == r
    # The parts that are taken away add up to half the difference, so they are just its own parts.
    # This is less than half of r + 1, and so less than the highest part, which is never among them.
    taken = digits(p, l, (r - k) // 2)
    return all([digit in (0, other) for digit, other in zip(taken, digits(p, l, r + 1))])


def next_over(p, l, k):
    """Return the least r above k for which holds is true, None if there is none."""
    N = k + 1
    place = _first_not_dividing(p, l, N)
    if place is None:
        return None
    above = N // place * place + place
    return 2 * above - N - 1


def _first_not_dividing(p, l, N):
    """Return the least of the places behind the first one that does not divide N, None if all do."""
    if l is None or (p == 0 and N % l == 0):
        return None
    place = l
    while N % place == 0:
        place *= p
    return place
