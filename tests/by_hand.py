"""The same things worked out in plain and slow ways, to hold the package's answers against."""

import itertools
from fractions import Fraction


def is_half(value):
    if type(value) is not str:
        return False
    while "()" in value:
        value = value.replace("()", "")
    return set(value) <= {"|"}


def halves(n, k):
    texts = ["".join(signs) for signs in itertools.product("()|", repeat=n)]
    return [text for text in texts if is_half(text) and text.count("|") == k]


def arcs(half):
    """The pairs (i, j): the text between two signs that match holds arcs alone."""
    found = []
    for i in range(len(half)):
        for j in range(i + 1, len(half)):
            between = half[i + 1:j]
            if half[i] == "(" and half[j] == ")" and "|" not in between and is_half(between):
                found.append((i, j))
    return found


def groups(nodes, lines):
    """The nodes in groups, those together that lines join."""
    group = {node: {node} for node in nodes}
    for a, b in lines:
        if group[a] is not group[b]:
            group[a] |= group[b]
            for node in group[b]:
                group[node] = group[a]
    return list({id(found): found for found in group.values()}.values())


def glue(one, other):
    lines = arcs(one) + arcs(other)
    loops = ends = 0
    for group in groups(range(len(one)), lines):
        open_one = [i for i in group if one[i] == "|"]
        open_other = [i for i in group if other[i] == "|"]
        if not open_one and not open_other:
            loops += 1
        if open_one and open_other:
            ends += 1
    return loops, ends


def lines_of(picture, above, below):
    """The lines of a picture whose points are called (above, i) and (below, i)."""
    top, bottom = picture
    ways = zip([i for i, sign in enumerate(top) if sign == "|"], [i for i, sign in enumerate(bottom) if sign == "|"])
    found = [((above, i), (below, j)) for i, j in ways]
    found += [((above, i), (above, j)) for i, j in arcs(top)]
    return found + [((below, i), (below, j)) for i, j in arcs(bottom)]


def half_of_row(row, met):
    """The half of one row of points, where met tells the point to which each one comes."""
    signs = []
    for node in row:
        other = met[node]
        signs.append("|" if other[0] != node[0] else "(" if other[1] > node[1] else ")")
    return "".join(signs)


def product(one, other):
    n = len(one[0])
    nodes = [(row, i) for row in "abc" for i in range(n)]
    loops, met = 0, {}
    for group in groups(nodes, lines_of(one, "a", "b") + lines_of(other, "b", "c")):
        outer = sorted([node for node in group if node[0] != "b"])
        if outer:
            first, last = outer
            met[first], met[last] = last, first
        else:
            loops += 1
    rows = [[(row, i) for i in range(n)] for row in "ac"]
    return loops, (half_of_row(rows[0], met), half_of_row(rows[1], met))


def under(picture, half):
    """A picture, its points below being those of a half, laid above it."""
    n = len(half)
    lines = lines_of(picture, "a", "b") + [(("b", i), ("b", j)) for i, j in arcs(half)]
    loops, met = 0, {}
    for group in groups([(row, i) for row in "ab" for i in range(n)], lines):
        above = sorted([node for node in group if node[0] == "a"])
        ends = above + [node for node in group if node[0] == "b" and half[node[1]] == "|"]
        if not ends:
            loops += 1
        for node in above:
            others = [other for other in above if other != node]
            met[node] = others[0] if others else ("none", 0)
    return loops, half_of_row([("a", i) for i in range(n)], met)


def fold(picture):
    """Each point below is point 2 n - 1 - i, and the lines are arcs between points so numbered."""
    n = len(picture[0])
    place = {("a", i): i for i in range(n)}
    place.update({("b", i): 2 * n - 1 - i for i in range(n)})
    signs = [""] * (2 * n)
    for one, other in lines_of(picture, "a", "b"):
        first, last = sorted([place[one], place[other]])
        signs[first], signs[last] = "(", ")"
    return "".join(signs)


def loops_round(picture):
    n = len(picture[0])
    nodes = [(row, i) for row in "ab" for i in range(n)]
    return len(groups(nodes, lines_of(picture, "a", "b") + [(("a", i), ("b", i)) for i in range(n)]))


def closed_last(picture):
    n = len(picture[0])
    nodes = [(row, i) for row in "ab" for i in range(n)]
    last = [("a", n - 1), ("b", n - 1)]
    loops, met = 0, {}
    for group in groups(nodes, lines_of(picture, "a", "b") + [tuple(last)]):
        rest = sorted([node for node in group if node not in last])
        if rest:
            met[rest[0]], met[rest[1]] = rest[1], rest[0]
        else:
            loops += 1
    rows = [[(row, i) for i in range(n - 1)] for row in "ab"]
    return loops, (half_of_row(rows[0], met), half_of_row(rows[1], met))


def power(p, d, m):
    """d as a factor m times, as a Python number."""
    answer = Fraction(1) if p == 0 else 1
    for _ in range(m):
        answer = answer * plain(p, d)
    return answer


def plain(p, x):
    """A number of the field as one of Python's."""
    return Fraction(x[0], x[1]) if p == 0 else x


def told(p, x):
    """One of Python's numbers as one of the field."""
    return (x.numerator, x.denominator) if p == 0 else x % p


def numbers(p):
    """Some numbers of the field, of a prime one all."""
    return list(range(p)) if p else [(0, 1), (1, 1), (-1, 1), (2, 1), (1, 2), (-5, 3)]


def made(p, rows, many):
    """All rows that are made of rows of so many numbers, p a prime."""
    found = {(0,) * many}
    for row in rows:
        found = {tuple((x + s * y) % p for x, y in zip(old, row)) for old in found for s in range(p)}
    return found


def determinant(p, rows):
    """By all the ways to take one number of each row and column."""
    total = Fraction(0) if p == 0 else 0
    for places in itertools.permutations(range(len(rows))):
        sign = 1
        for i, j in itertools.combinations(places, 2):
            sign = -sign if i > j else sign
        for row, place in zip(rows, places):
            sign = sign * plain(p, row[place])
        total += sign
    return told(p, total)


def support(p, l, N):
    """By all signs of the parts, which are found from the highest place down."""
    places = [1]
    if l is not None:
        places.append(l)
        while p and places[-1] <= N:
            places.append(places[-1] * p)
    parts, rest = [], N
    for place in reversed(places):
        parts.append(rest // place * place)
        rest %= place
    parts = [part for part in parts if part]
    found = set()
    for signs in itertools.product((1, -1), repeat=len(parts) - 1):
        found.add(parts[0] + sum(sign * part for sign, part in zip(signs, parts[1:])))
    return tuple(sorted(found))
