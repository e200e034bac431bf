"""Ranks: rows of numbers, what is made of them, and the rows that a table brings to nought."""

from loopworth.fields import is_number, minus, number, over, times
from loopworth.halves import count
from loopworth.rooms import table, values_of


def rank_of(p, rows):
    """Return how many of the rows are free at most."""
    return len(reduced(p, rows))


def reduced(p, rows):
    """Return the list of the reduced rows of which the same rows are made."""
    rest = list(rows)
    found = []
    for place in range(len(rest[0]) if rest else 0):
        at = _first_with(p, rest, place)
        if at is not None:
            row = _led_by_one(p, rest.pop(at), place)
            rest = [_cleared(p, other, row, place) for other in rest]
            found = [_cleared(p, other, row, place) for other in found]
            found.append(row)
    return found


def _first_with(p, rows, place):
    """Return the number of the first row with a number other than nought at the place, or None."""
    nought = number(p, 0)
    for at, row in enumerate(rows):
        if row[place] != nought:
            return at
    return None


def _led_by_one(p, row, place):
    """Return the multiple of a row that has one at the place."""
    return tuple([over(p, x, row[place]) for x in row])


def _cleared(p, row, by, place):
    """Return a row less that multiple of another one, by, with which nought comes at the place."""
    often = over(p, row[place], by[place])
    if often == number(p, 0):
        return row
    return tuple([minus(p, x, times(p, often, y)) for x, y in zip(row, by)])


def determinant(p, rows):
    """Return the determinant of as many rows as there are numbers in each."""
    rest = list(rows)
    answer = number(p, 1)
    for place in range(len(rows)):
        at = _first_with(p, rest, place)
        if at is None:
            return number(p, 0)
        row = rest.pop(at)
        # The row comes ahead of as many others as at tells, and the sign changes with each.
        answer = times(p, answer, times(p, row[place], number(p, -1 if at % 2 == 1 else 1)))
        rest = [_cleared(p, other, row, place) for other in rest]
    return answer


def table_rank(p, d, n, k):
    """Return the rank of the table of the halves of n points with k loose ends."""
    return rank_of(p, table(p, d, n, k))


def nought_basis(p, d, n, k):
    """Return the list of the reduced rows of all nought rows of the room."""
    return rows_to_nought(p, table(p, d, n, k), count(n, k))


def rows_to_nought(p, rows, many):
    """Return the reduced rows of all rows of so many numbers that each of the rows brings to nought.

    That is, for each of the rows its numbers times theirs, place by place, add up to nought.
    """
    steps = reduced(p, rows)
    leads = [step.index(number(p, 1)) for step in steps]
    found = []
    for free in range(many):
        if free not in leads:
            row = [number(p, 0)] * many
            row[free] = number(p, 1)
            for lead, step in zip(leads, steps):
                row[lead] = minus(p, number(p, 0), step[free])
            found.append(tuple(row))
    return reduced(p, found)


def judge_nought(p, d, n, k, value):
    """Return None if any value is a nought row of the room, else the first fault."""
    if not is_row(p, count(n, k), value):
        return ("form",)
    for j, x in enumerate(values_of(p, d, n, k, value)):
        if x != number(p, 0):
            return ("value", j, x)
    return None


def is_row(p, many, value):
    """Return whether any value is a tuple of so many numbers of the field."""
    if not isinstance(value, tuple) or len(value) != many:
        return False
    return all([is_number(p, x) for x in value])
