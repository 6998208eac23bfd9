"""Near forms: a form told by a basis of least rows, so that all its numbers are small."""

from conekin.forms import pairing, worth
from conekin.tables import carried


def in_order(form, rows):
    """The rows, that of the least worth first."""
    return sorted(rows, key=lambda row: worth(form, row))


def less_times(row, times, other):
    """The row less a number of times the other one."""
    return [x - times * y for x, y in zip(row, other)]


def nearest(top, bottom):
    """The whole number nearest to top divided by bottom, bottom above 0."""
    return (2 * top + bottom) // (2 * bottom)


def least_pair(form, one, other):
    """Two rows that make the same rows as the two handed in, the first the least of these, the other the next."""
    while True:
        other = less_times(other, nearest(pairing(form, one, other), pairing(form, one, one)), one)
        if worth(form, other) >= worth(form, one):
            return one, other
        one, other = other, one


def drawn_in(form, one, other, third):
    """The third row less that one made of a least pair which leaves the least worth."""
    across, along, aside = pairing(form, one, one), pairing(form, one, other), pairing(form, other, other)
    by_one, by_other = pairing(form, one, third), pairing(form, other, third)
    area = across * aside - along * along
    # The third row stands above this place of the pair's plane, or between it and the next ones either way. Two
    # triangles without a blunt corner make up the four places of a least pair, so none but these can be nearest.
    first = (aside * by_one - along * by_other) // area
    second = (across * by_other - along * by_one) // area
    corners = [(first, second), (first, second + 1), (first + 1, second), (first + 1, second + 1)]
    return in_order(form, [less_times(less_times(third, i, one), j, other) for i, j in corners])[0]


def near_basis(form):
    """A basis whose rows have the least worths that rows which make up all the others can have, rising."""
    one, other, third = in_order(form, [[1, 0, 0], [0, 1, 0], [0, 0, 1]])
    # Each row is brought as near to nought as it goes, not by single steps: so the times round are a few for each
    # figure of the numbers, however great these are.
    while True:
        one, other = least_pair(form, one, other)
        third = drawn_in(form, one, other, third)
        if worth(form, third) >= worth(form, other):
            return [one, other, third]
        one, other, third = in_order(form, [one, other, third])


def near(form):
    """A tuple (near form, basis): the basis carries the form to a near one."""
    basis = near_basis(form)
    return carried(form, basis), basis
