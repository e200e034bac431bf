"""Pictures: two halves joined by their loose ends; gluing, products, words of arcs."""

from loopworth.halves import all_halves, arcs_of, halves, is_half, loose, loose_ends, mirrored, near, partners


def is_picture(value):
    """Return whether any value is a picture, of however many points."""
    if not isinstance(value, tuple) or len(value) != 2:
        return False
    top, bottom = value
    if not is_half(top) or not is_half(bottom):
        return False
    return len(top) == len(bottom) and loose(top) == loose(bottom)


def straight(n):
    """Return the picture of n points without arcs."""
    return ("|" * n, "|" * n)


def arc(n, i):
    """Return the picture in which the points i and i + 1 are joined, above and below."""
    half = "|" * i + "()" + "|" * (n - i - 2)
    return (half, half)


def pictures(n):
    """Return the ascending list of all pictures of n points."""
    return [(top, bottom) for top in all_halves(n) for bottom in halves(n, loose(top))]


def turned(picture):
    top, bottom = picture
    return (bottom, top)


def flipped(picture):
    top, bottom = picture
    return (mirrored(top), mirrored(bottom))


def glue(one, other):
    """Return how many loops two halves close, and how many loose ends of one come to some of other."""
    loops, back, _ = laid(one, other)
    return (loops, loose(one) - 2 * len(back))


def laid(one, other):
    """Lay two halves on one another, face to face.

    Return how many loops are closed, and for either half the pairs of its loose ends that come to
    one another, told by their numbers among the loose ends of this half.
    """
    seen = [False] * len(one)
    back = _coming_back(one, other, seen)
    other_back = _coming_back(other, one, seen)
    return (_loops(one, other, seen), back, other_back)


def _coming_back(one, other, seen):
    """Return the pairs of loose ends of one that come to one another; mark all points on the ways."""
    arcs = (partners(other), partners(one))
    ends = loose_ends(one)
    back = []
    for number, i in enumerate(ends):
        turn = 0
        seen[i] = True
        while arcs[turn][i] is not None:
            i = arcs[turn][i]
            seen[i] = True
            turn = 1 - turn
        # A way that would go on by one's arcs has come to a loose end of one.
        if turn == 1 and number < ends.index(i):
            back.append((number, ends.index(i)))
    return back


def _loops(one, other, seen):
    """Return how many loops there are among the points that are not seen, and mark these."""
    arcs, other_arcs = partners(one), partners(other)
    loops = 0
    for begin in range(len(seen)):
        if not seen[begin]:
            loops += 1
            i = begin
            while not seen[i]:
                seen[i] = True
                seen[arcs[i]] = True
                i = other_arcs[arcs[i]]
    return loops


def joined(half, pairs):
    """Return the half in which pairs of loose ends, told by their numbers, are joined by arcs."""
    ends = loose_ends(half)
    signs = list(half)
    for i, j in pairs:
        signs[ends[i]] = "("
        signs[ends[j]] = ")"
    return "".join(signs)


def product(one, other):
    """Put one picture above another one: return the loops that are closed, and what is left."""
    loops, back, other_back = laid(one[1], other[0])
    return (loops, (joined(one[0], back), joined(other[1], other_back)))


def of_word(n, word):
    """Return the loops and the picture of a word, the arc of its first letter above all others."""
    loops, picture = 0, straight(n)
    for i in word:
        closed, picture = product(picture, arc(n, i))
        loops += closed
    return (loops, picture)


def are_alike(n, one, other):
    return of_word(n, one) == of_word(n, other)


def _ways(picture):
    """Return the pairs of a loose point above and the loose point below to which it comes."""
    top, bottom = picture
    return list(zip(loose_ends(top), loose_ends(bottom)))


def _crosses(line, i):
    """Return whether a line between two points crosses the gap i."""
    return (line[0] <= i) != (line[1] <= i)


def letters_of(picture):
    """Return the tuple that tells of each gap half the number of lines that cross it."""
    top, bottom = picture
    lines = list(arcs_of(top)) + list(arcs_of(bottom)) + _ways(picture)
    return tuple([len([line for line in lines if _crosses(line, i)]) // 2 for i in range(len(top) - 1)])


def fewest(picture):
    """Return a word with the fewest letters that tells a picture."""
    word = []
    rest = picture
    while near(rest[0]):
        i = near(rest[0])[0]
        word.append(i)
        rest = _beneath(rest, i)
    return tuple(word)


def _beneath(picture, i):
    """Return the picture with one letter i less that arc i, put above it, makes the picture of.

    The picture has (i, i + 1) as an arc above. Of the lines that cross the gap i beneath this arc the
    uppermost one, from a to b, was led up to it: without the arc, a comes to i, and b to i + 1.
    """
    top, bottom = picture
    if not is_half(top[:i]):
        return (_with_signs(top, (i, i + 1), ")("), bottom)
    ways = [way for way in _ways(picture) if _crosses(way, i)]
    if not ways:
        # Arcs are told from the left, so of all that cross the gap the first one lies uppermost.
        line = [pair for pair in arcs_of(bottom) if _crosses(pair, i)][0]
        return (_with_signs(top, (i, i + 1), "||"), _with_signs(bottom, line, "||"))
    # All of these ways lead to the same side, and the uppermost one begins nearest to the gap.
    if ways[0][0] < i:
        return (_with_signs(top, (ways[-1][0], i, i + 1), "()|"), bottom)
    return (_with_signs(top, (i, i + 1, ways[0][0]), "|()"), bottom)


def _with_signs(half, places, signs):
    """Return the half with the signs at the places exchanged for others."""
    changed = list(half)
    for place, sign in zip(places, signs):
        changed[place] = sign
    return "".join(changed)


def fewest_length(picture):
    """Return how many letters the shortest words have that tell a picture."""
    return sum(letters_of(picture))
