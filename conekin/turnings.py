"""Turnings: the bases by which a form is carried to itself."""

from conekin.forms import half, pairing
from conekin.least import corner_rows
from conekin.near import near
from conekin.tables import back, product


def near_turnings(table):
    """All turnings of a near form."""
    firsts, seconds, thirds = corner_rows(table)
    # Rows that have all the pairings of the form's own basis have its determinant too, so they are a basis.
    return [
        [one, other, third]
        for one in firsts
        for other in seconds if pairing(table, one, other) == table[0][1]
        for third in thirds if pairing(table, one, third) == table[0][2]
        if pairing(table, other, third) == table[1][2]
    ]


def turnings(form):
    """All turnings of a form, sorted [NoForm, TooGreat]."""
    half(form)
    table, basis = near(form)
    homeward = back(basis)
    return sorted([product(product(homeward, turning), basis) for turning in near_turnings(table)])


def turnings_many(form):
    """How many turnings a form has [NoForm, TooGreat]."""
    half(form)
    return len(near_turnings(near(form)[0]))
