"""Forms: tables that give each row but that of noughts a worth above 0."""

from conekin.errors import NoForm, TooGreat
from conekin.tables import cover, determinant, is_table, turned_over

GREATEST_HALF = 200


def is_even_table(thing):
    """Whether any thing is a table, its own turned over one, with even numbers on the diagonal."""
    if not is_table(thing):
        return False
    return thing == turned_over(thing) and all(thing[i][i] % 2 == 0 for i in range(3))


def is_form(thing):
    """Whether any thing is a form."""
    return is_even_table(thing) and low_row(thing) is None


def pairing(table, one, other):
    """The sum of one's number i times the table's (i, j) times other's number j."""
    x, y, z = other
    return sum(number * (row[0] * x + row[1] * y + row[2] * z) for number, row in zip(one, table))


def worth(table, row):
    """Half of the row's pairing with itself."""
    return pairing(table, row, row) // 2


def low_row(table):
    """A row but that of noughts whose worth is 0 or less, or None where the table is a form."""
    # The three corners of the table decide, each row built where the corners before it are above 0.
    first = table[0][0]
    if first <= 0:
        return [1, 0, 0]
    # The pairing of this row with itself is first times the corner of two.
    mixed = table[0][1]
    if first * table[1][1] - mixed * mixed <= 0:
        return [-mixed, first, 0]
    # The table sends this row to (0, 0, determinant), so its pairing with itself
    # is the determinant times its last number, which is the corner of two.
    if determinant(table) <= 0:
        return cover(table)[2]
    return None


def half(form):
    """The half determinant of a form [NoForm, TooGreat]."""
    if not is_form(form):
        raise NoForm("this is no form")
    told = determinant(form) // 2
    if told > GREATEST_HALF:
        raise TooGreat(f"the half determinant is above {GREATEST_HALF}")
    return told
