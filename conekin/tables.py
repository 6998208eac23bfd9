"""Tables: lists of three rows, each a list of three whole numbers."""

from conekin.errors import NoBasis


def is_whole(thing):
    """Whether any thing is a whole number."""
    # Python counts the truths among its ints, the document does not.
    return isinstance(thing, int) and not isinstance(thing, bool)


def is_row(thing):
    """Whether any thing is a list of three whole numbers."""
    if not isinstance(thing, list) or len(thing) != 3:
        return False
    return all(is_whole(number) for number in thing)


def is_table(thing):
    """Whether any thing is a list of three rows."""
    if not isinstance(thing, list) or len(thing) != 3:
        return False
    return all(is_row(row) for row in thing)


def product(one, other):
    """The first table multiplied with the second one."""
    return [[sum(one[i][k] * other[k][j] for k in range(3)) for j in range(3)] for i in range(3)]


def turned_over(table):
    """The table with (i, j) and (j, i) exchanged."""
    return [[table[j][i] for j in range(3)] for i in range(3)]


def signed_minor(table, i, j):
    """The minor left without row i and column j, with its sign."""
    # Going on in a circle from (i, j) orders the rows and columns left so that the sign comes by itself.
    row, next_row = table[(i + 1) % 3], table[(i + 2) % 3]
    column, next_column = (j + 1) % 3, (j + 2) % 3
    return row[column] * next_row[next_column] - row[next_column] * next_row[column]


def determinant(table):
    """The determinant of a table."""
    (a, b, c), (d, e, f), (g, h, i) = table
    return a * (e * i - f * h) + b * (f * g - d * i) + c * (d * h - e * g)


def cover(table):
    """The table of the minors, with signs, turned over."""
    return [[signed_minor(table, j, i) for j in range(3)] for i in range(3)]


def is_basis(table):
    """Whether the table has the determinant 1 or -1."""
    return determinant(table) in (1, -1)


def back(table):
    """The table that undoes a basis from either side [NoBasis]."""
    if not is_basis(table):
        raise NoBasis("the determinant is neither 1 nor -1")
    # To divide by 1 or -1 is the same as to multiply with it.
    unit = determinant(table)
    return [[unit * number for number in row] for row in cover(table)]


def rest(table, m):
    """The table of each number's rest by m, from 0 to below m."""
    return [[number % m for number in row] for row in table]


def carried(table, by):
    """The table told by the rows of another one: by times table times by turned over."""
    return product(product(by, table), turned_over(by))
