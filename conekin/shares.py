"""Shares: the kinds of a book, each divided by how many turnings it has, and the polynomial of a book's counts."""

from conekin.books import book, refuse_no_book
from conekin.rows import how_many, refuse_others
from conekin.turnings import turnings_many

GREATEST_SHARED = 350
# How many turnings a form has divides this number.
BOTTOM = 48


def lowest(top, bottom):
    """The fraction in lowest terms, top from 0 on and bottom from 1 on."""
    one, other = top, bottom
    while other != 0:
        one, other = other, one % other
    return top // one, bottom // one


def shared_out(kinds, times):
    """The sum of the shares of the kinds, each a number of times."""
    return lowest(sum(number * (BOTTOM // turnings_many(kind)) for kind, number in zip(kinds, times)), BOTTOM)


def weight(form, p):
    """The sum of the shares of the kinds of a book [NoForm, TooGreat, NoPrime]."""
    kinds = book(form, p)[0]
    return shared_out(kinds, [1] * len(kinds))


def shared(form, p, n):
    """The sum of how many rows of the worth n each kind of a book has, times its share.

    [NoForm, TooGreat, NoPrime, NoWorth]
    """
    refuse_no_book(form, p)
    refuse_others(n, GREATEST_SHARED)
    kinds = book(form, p)[0]
    return shared_out(kinds, [how_many(kind, n) for kind in kinds])


def multiplied(one, other):
    """One list of lists multiplied with another, as tables are."""
    columns = list(zip(*other))
    return [[sum(x * y for x, y in zip(row, column)) for column in columns] for row in one]


def with_added(rows, number):
    """The list of lists with a number added on the diagonal."""
    return [[x + number if i == j else x for j, x in enumerate(row)] for i, row in enumerate(rows)]


def polynomial(rows):
    """The numbers of the determinant of a letter on the diagonal less the rows, that of the power 0 first."""
    # Each number, from the highest power down, is told by the trace of what the ones before it make of the rows; it
    # is a whole number, so the division leaves nothing.
    many = len(rows)
    told = [1]
    made = [[0] * many for row in rows]
    for power in range(1, many + 1):
        made = multiplied(rows, with_added(made, told[-1]))
        told.append(-sum(made[i][i] for i in range(many)) // power)
    return told[::-1]
