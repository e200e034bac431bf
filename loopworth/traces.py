"""Pictures closed round: traces, round values, and the elements that no picture hears."""

from loopworth.elements import added, is_element, of_row, product_of, scaled, share
from loopworth.fields import number, plus, power, sum_of_products, times
from loopworth.folding import closed_last, loops_round, pictures_by_folds
from loopworth.halves import count
from loopworth.pictures import product, straight, turned
from loopworth.pieces import size
from loopworth.ranks import nought_basis, reduced
from loopworth.rooms import table
from loopworth.worths import length


def trace(p, d, element):
    """Return the number that an element closes to, each loop being worth d."""
    total = number(p, 0)
    for picture, x in element:
        total = plus(p, total, times(p, x, power(p, d, loops_round(picture))))
    return total


def closed_element(p, d, element):
    """Return the element of one point less that comes if the last points are joined."""
    come = ()
    for picture, x in element:
        loops, rest = closed_last(picture)
        come = added(p, come, scaled(p, ((rest, x),), power(p, d, loops)))
    return come


def round_value(p, d, one, other):
    """Return the trace of one picture above the other one turned."""
    loops, picture = product(one, turned(other))
    return power(p, d, loops + loops_round(picture))


def round_table(p, d, n):
    """Return the tuple of the rows of the round values of all pictures, in the order of their folds."""
    # The round value of two pictures is the value of their folds.
    return table(p, d, 2 * n, 0)


def round_rank(p, d, n):
    """Return the rank of the table of round values, told without the table."""
    return size(p, d, 2 * n, 0)


def keeps_round(p, d, n):
    """Return whether all rows of the table of round values are free."""
    l = length(p, d)
    return l is None or l > n + 1


def judge_silent(p, d, n, value):
    """Return None if any value is a silent element of n points, else the first fault."""
    if not is_element(p, n, value) or value == ():
        return ("form",)
    some = pictures_by_folds(n)
    for picture, x in zip(some, _heard(p, round_table(p, d, n), some, value)):
        if x != number(p, 0):
            return ("heard", picture, x)
    return None


def _heard(p, rows, some, one):
    """Return the values of an element with some pictures, whose rows of round values are told."""
    shares = [share(p, one, picture) for picture in some]
    return [sum_of_products(p, shares, row) for row in rows]


def answers(p, d, n):
    """Return the elements that are heard by one picture each, or a silent one where there is one."""
    some = pictures_by_folds(n)
    if not keeps_round(p, d, n):
        return ("loses", of_row(p, some, nought_basis(p, d, 2 * n, 0)[0]))
    # Beside the table stand the rows of units; what comes of them has the table for its opposite.
    rows = [row + unit for row, unit in zip(round_table(p, d, n), _units(p, len(some)))]
    return ("keeps", [of_row(p, some, row[len(some):]) for row in reduced(p, rows)])


def _units(p, many):
    """Return the list of the rows with one at one of so many places and nought elsewhere."""
    return [tuple([number(p, 1 if i == j else 0) for j in range(many)]) for i in range(many)]


def judge_answers(p, d, n, value):
    """Return None if any value is what answers may return, else the first fault."""
    if not isinstance(value, tuple) or len(value) != 2:
        return ("form",)
    word, told = value
    if word == "loses":
        fault = judge_silent(p, d, n, told)
        return None if fault is None else ("silent", fault)
    if word != "keeps" or not _are_all_told(p, n, told):
        return ("form",)
    rows, some = round_table(p, d, n), pictures_by_folds(n)
    for k, (one, unit) in enumerate(zip(told, _units(p, len(some)))):
        for j, (x, right) in enumerate(zip(_heard(p, rows, some, one), unit)):
            if x != right:
                return ("value", k, j)
    return None


def _are_all_told(p, n, value):
    """Return whether any value is a list or tuple of as many elements as there are pictures, none ()."""
    if not isinstance(value, (list, tuple)) or len(value) != count(2 * n, 0):
        return False
    return all([is_element(p, n, one) and one != () for one in value])


def trace_row(p, d, n, element, m):
    """Return the list of the traces of the products of 0 to m copies of an element."""
    copies = ((straight(n), number(p, 1)),)
    row = [trace(p, d, copies)]
    for _ in range(m):
        copies = product_of(p, d, copies, element)
        row.append(trace(p, d, copies))
    return row
