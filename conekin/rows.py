"""Rows of one worth: found by the near form, whose box is small, and told by the form's own basis."""

from conekin.errors import NoWorth
from conekin.forms import half
from conekin.near import near
from conekin.tables import determinant, is_whole

GREATEST_WORTH = 600
GREATEST_COUNTED = 60


def root(number):
    """The greatest whole number whose square is at most a number from 0 on."""
    # From above, each step stays at the root or above it.
    told = 1 << (number.bit_length() + 1) // 2
    while told * told > number:
        told = (told + number // told) // 2
    return told


def slices(table, n):
    """A list of (y, z, shift, left), for all y and z of rows (x, y, z) whose worth is at most n.

    Such a row has that worth where the square of first * x + shift is at most left, and n itself where it is left.
    """
    (first, mixed, far), second, third = table
    # First times the pairing of (x, y, z) with itself is (first x + mixed y + far z) squared
    # and flat yy + 2 bent yz + high zz; flat times this again is a square and first times whole times zz.
    flat = first * second[1] - mixed * mixed
    bent = first * second[2] - mixed * far
    high = first * third[2] - far * far
    whole = determinant(table)
    most = 2 * n * first
    told = []
    reach = root(2 * n * flat // whole)
    for z in range(-reach, reach + 1):
        span = root(flat * most - first * whole * z * z)
        for y in range(-((span + bent * z) // flat), (span - bent * z) // flat + 1):
            left = most - (flat * y * y + 2 * bent * y * z + high * z * z)
            told.append((y, z, mixed * y + far * z, left))
    return told


def near_rows(table, n):
    """All rows of the worth n of a near form, sorted."""
    first = table[0][0]
    told = []
    for y, z, shift, left in slices(table, n):
        side = root(left)
        if side * side == left:
            # The side 0 is its own contrary, and its row is told once.
            sides = [side, -side] if side > 0 else [0]
            for number in sides:
                if (number - shift) % first == 0:
                    told.append([(number - shift) // first, y, z])
    return sorted(told)


def near_counts(table, n):
    """How many rows a near form has of each worth from 0 to n."""
    first = table[0][0]
    told = [0] * (n + 1)
    for y, z, shift, left in slices(table, n):
        side = root(left)
        for x in range(-((side + shift) // first), (side - shift) // first + 1):
            number = first * x + shift
            told[n - (left - number * number) // (2 * first)] += 1
    return told


def by_basis(row, basis):
    """The row that is told by numbers of times the rows of a basis."""
    return [sum(row[k] * basis[k][j] for k in range(3)) for j in range(3)]


def refuse_others(n, greatest):
    """Lets by whole numbers from 0 to the greatest [NoWorth]."""
    if not is_whole(n) or n < 0 or n > greatest:
        raise NoWorth(f"this is no whole number from 0 to {greatest}")


def rows_of(form, n):
    """All rows of the worth n, sorted [NoForm, TooGreat, NoWorth]."""
    half(form)
    refuse_others(n, GREATEST_WORTH)
    table, basis = near(form)
    return sorted([by_basis(row, basis) for row in near_rows(table, n)])


def how_many(form, n):
    """How many rows have the worth n [NoForm, TooGreat, NoWorth]."""
    half(form)
    refuse_others(n, GREATEST_WORTH)
    return len(near_rows(near(form)[0], n))


def counts_to(form, n):
    """How many rows have the worths 0, 1, and so on, up to n [NoForm, TooGreat, NoWorth]."""
    half(form)
    refuse_others(n, GREATEST_COUNTED)
    return near_counts(near(form)[0], n)


def least_worth(form):
    """The least worth above 0 that some row has [NoForm, TooGreat]."""
    half(form)
    return near(form)[0][0][0] // 2
