"""Lines on the cone: the rows, but for multiples of a prime, whose worth is divided by it."""

from conekin.errors import NoLine, NoPrime
from conekin.forms import half, worth
from conekin.tables import is_row, is_whole

PRIMES = (3, 5, 7, 11, 13)


def is_prime_by(halved, thing):
    """Whether any thing is a prime of the forms of a half determinant."""
    return is_whole(thing) and thing in PRIMES and halved % thing != 0


def refuse_no_prime(form, p):
    """Lets by the primes of a form [NoForm, TooGreat, NoPrime]."""
    if not is_prime_by(half(form), p):
        raise NoPrime("this is no prime of the form")


def upturned(number, p):
    """The number from 1 to p - 1 that times a number not divided by p makes 1, but for multiples of p."""
    return [times for times in range(1, p) if times * number % p == 1][0]


def leading_ones(p):
    """All rows of numbers from 0 to p - 1 whose first one that isn't 0 is 1, sorted."""
    return [[0, 0, 1]] + [[0, 1, z] for z in range(p)] + [[1, y, z] for y in range(p) for z in range(p)]


def line_under(form, p, row):
    """The line of a form and its prime on which a row lies, or None."""
    rests = [number % p for number in row]
    leading = [number for number in rests if number != 0]
    if not leading or worth(form, rests) % p != 0:
        return None
    times = upturned(leading[0], p)
    return [times * number % p for number in rests]


def is_line(form, p, thing):
    """Whether any thing is a line of a form and its prime."""
    return is_row(thing) and line_under(form, p, thing) == thing


def lines(form, p):
    """All lines of a form and a prime, sorted [NoForm, TooGreat, NoPrime]."""
    refuse_no_prime(form, p)
    return [row for row in leading_ones(p) if worth(form, row) % p == 0]


def line_of(form, p, row):
    """The line on which a row lies, or None [NoForm, TooGreat, NoPrime]."""
    refuse_no_prime(form, p)
    return line_under(form, p, row)


def slopes(form, p, line):
    """The pairings of a line with the rows that have 1 at one place and 0 elsewhere, but for multiples of p."""
    return [sum(line[i] * form[i][j] for i in range(3)) % p for j in range(3)]


def last_slope(told):
    """The last place that has a slope."""
    # There is one, as p doesn't divide the determinant.
    return max(j for j in range(3) if told[j] != 0)


def first_lift(form, p, line):
    """The lift of a line of a form and its prime."""
    # Moved on by p at one place, the worth moves on by p times the slope there, but for multiples of p p. The first
    # row keeps as many of its first places as can be, so it is moved on at the last place alone that has a slope.
    slants = slopes(form, p, line)
    at = last_slope(slants)
    times = -(worth(form, line) // p) * upturned(slants[at], p) % p
    told = list(line)
    told[at] += times * p
    return told


def refuse_no_line(form, p, line):
    """Lets by the lines of a form and a prime of its own [NoForm, TooGreat, NoPrime, NoLine]."""
    refuse_no_prime(form, p)
    if not is_line(form, p, line):
        raise NoLine("this is no line of the form and the prime")


def lift(form, p, line):
    """The first row that is the line but for multiples of p, with a worth divided by p p.

    [NoForm, TooGreat, NoPrime, NoLine]
    """
    refuse_no_line(form, p, line)
    return first_lift(form, p, line)
