"""Halves: points in a row, joined by arcs that do not cross or loose, told by texts of ( ) and |."""

from math import comb

from loopworth.errors import BadHalf

MIRRORED_SIGNS = {"(": ")", ")": "(", "|": "|"}


def is_half(value):
    """Return whether any value is a half, of however many points."""
    if not isinstance(value, str):
        return False
    within = 0
    for sign in value:
        if sign == "(":
            within += 1
        elif sign == ")" and within > 0:
            within -= 1
        elif sign != "|" or within > 0:
            return False
    return within == 0


def points(half):
    return len(half)


def loose(half):
    """Return how many loose ends a half has."""
    return half.count("|")


def loose_ends(half):
    """Return the list of the points that are loose, ascending."""
    return [i for i, sign in enumerate(half) if sign == "|"]


def partner(half, i):
    """Return the point that is joined with point i, None if this is loose."""
    return partners(half)[i]


def partners(half):
    """Return the list of the partners of all points."""
    found = [None] * len(half)
    begun = []
    for i, sign in enumerate(half):
        if sign == "(":
            begun.append(i)
        elif sign == ")":
            left = begun.pop()
            found[left] = i
            found[i] = left
    return found


def arcs_of(half):
    """Return the ascending tuple of the arcs, pairs (i, j) with i below j."""
    return tuple([(i, j) for i, j in enumerate(partners(half)) if j is not None and i < j])


def near(half):
    """Return the ascending tuple of all i for which (i, i + 1) is an arc."""
    return tuple([i for i in range(len(half) - 1) if half[i:i + 2] == "()"])


def mirrored(half):
    """Return the half told from the other end."""
    return "".join([MIRRORED_SIGNS[sign] for sign in half[::-1]])


def halves(n, k):
    """Return the ascending list of all halves of n points with k loose ends."""
    begun = [("", 0, k)] if count(n, k) > 0 else []
    for m in range(n - 1, -1, -1):
        begun = [
            (text + sign, inner, still)
            for text, within, ends in begun
            for sign, inner, still in _steps(within, ends)
            if count(m, inner + still) > 0
        ]
    return [state[0] for state in begun]


def _steps(within, ends):
    """Return what may come next, ascending, where some arcs are open and some loose ends to come.

    Each is the next sign, how many arcs are open behind it, and how many loose ends still come.
    """
    steps = [("(", within + 1, ends)]
    if within > 0:
        steps.append((")", within - 1, ends))
    elif ends > 0:
        steps.append(("|", within, ends - 1))
    return steps


def count(n, k):
    """Return how many halves of n points with k loose ends there are, without listing them."""
    if k > n or (n - k) % 2 == 1:
        return 0
    arcs = (n - k) // 2
    if arcs == 0:
        return 1
    return comb(n, arcs) - comb(n, arcs - 1)


def all_halves(n):
    """Return the ascending list of all halves of n points, however many loose ends they have."""
    return sorted([half for k in range(n + 1) for half in halves(n, k)])


def path(half):
    """Return the tuple of the heights: up by 1 for each ( and each |, down by 1 for each )."""
    heights = [0]
    for sign in half:
        heights.append(heights[-1] + (-1 if sign == ")" else 1))
    return tuple(heights)


def half_along(told):
    """Return the half that has the told heights as its path."""
    signs = []
    begun = []
    for before, behind in zip(told, told[1:]):
        if behind > before:
            # Loose, unless the path comes down again to the height from which it goes up here.
            begun.append(len(signs))
            signs.append("|")
        else:
            signs[begun.pop()] = "("
            signs.append(")")
    return "".join(signs)


def half_by(n, arcs):
    """Return the half of n points that has just the told arcs, in any order."""
    left = [i for i, _ in arcs]
    right = [j for _, j in arcs]
    half = "".join(["(" if i in left else ")" if i in right else "|" for i in range(n)])
    # The brackets of arcs that cross or share a point are matched in another way, or not at all.
    if not is_half(half) or arcs_of(half) != tuple(sorted(arcs)):
        raise BadHalf(arcs)
    return half


def half_number(half):
    """Return how many halves of as many points and loose ends are less than a half."""
    less = 0
    within = 0
    ends = loose(half)
    for i, sign in enumerate(half):
        for other, inner, still in _steps(within, ends):
            if other == sign:
                within, ends = inner, still
                break
            less += count(len(half) - i - 1, inner + still)
    return less


def half_of(n, k, number):
    """Return the half of n points with k loose ends that number others are less than."""
    if number >= count(n, k):
        raise BadHalf(number)
    text = ""
    within, ends, less = 0, k, number
    for m in range(n - 1, -1, -1):
        sign, within, ends, less = _step_to(m, within, ends, less)
        text += sign
    return text


def _step_to(m, within, ends, less):
    """Return the next sign, what is open and to come behind it, and how many are less there yet.

    So many of those that go on the same way so far are to be less; m points are left behind the sign.
    """
    for sign, inner, still in _steps(within, ends):
        many = count(m, inner + still)
        if less < many:
            break
        less -= many
    return (sign, inner, still, less)


def next_half(half):
    """Return the least half of as many points and loose ends that is greater, None if there is none."""
    n, k, following = points(half), loose(half), half_number(half) + 1
    return half_of(n, k, following) if following < count(n, k) else None
