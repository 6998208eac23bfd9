"""Least forms: the first one of each kind, by which alike forms are known."""

from conekin.forms import half, pairing
from conekin.near import near
from conekin.rows import near_rows
from conekin.tables import back, carried, is_basis, product


def corner_rows(table):
    """Three lists: the rows of a near form that have the worths of its first, second and third basis row."""
    return [near_rows(table, table[i][i] // 2) for i in range(3)]


def pairs_in_order(table, firsts, seconds):
    """All (pairing, one, other) of a row of the firsts and one of the seconds, the least pairing first."""
    # A basis and its contrary carry to the same form, so one of each two contrary rows is enough for the first
    # one: sorted, rows stand with their contraries mirrored.
    halved = firsts[:len(firsts) // 2]
    return sorted([(pairing(table, one, other), one, other) for one in halved for other in seconds])


def least_basis(table):
    """The basis that carries a near form to the least one."""
    # The diagonal of a near form is the least that there can be, so the least form has the same.
    firsts, seconds, thirds = corner_rows(table)
    best, told = None, None
    for mixed, one, other in pairs_in_order(table, firsts, seconds):
        if best is not None and mixed > best[0]:
            break
        for third in thirds:
            if is_basis([one, other, third]):
                found = (mixed, pairing(table, one, third), pairing(table, other, third))
                if best is None or found < best:
                    best, told = found, [one, other, third]
    return told


def least(form):
    """A tuple (least form, basis that carries the form to it) [NoForm, TooGreat]."""
    half(form)
    table, basis = near(form)
    last = least_basis(table)
    return carried(table, last), product(last, basis)


def alike(one, other):
    """A basis that carries the first form to the second one, or None [NoForm, TooGreat]."""
    half(one)
    half(other)
    first, by_first = least(one)
    second, by_second = least(other)
    if first != second:
        return None
    return product(back(by_second), by_first)
