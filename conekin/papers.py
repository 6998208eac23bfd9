"""Papers: books written so that anybody can check them step by step."""

from conekin.beside import first_step, made_by, steps_along
from conekin.books import book, booked_half
from conekin.cone import is_prime_by, lines
from conekin.forms import is_form
from conekin.least import least
from conekin.tables import back, determinant, is_row, is_whole, product


def link_by(form, p, line, kinds, homeward):
    """The link of a form by a line to the entry of its kind; homeward carries the first kind to its entry's form."""
    step = first_step(form, p, line)
    kind, basis = least(made_by(form, p, step))
    number = kinds.index(kind)
    if number == 0:
        basis = product(homeward, basis)
    # A step is told by any basis of the rows that are good.
    return line, product(basis, step), number


def paper(form, p):
    """A right paper of a form and a prime [NoForm, TooGreat, NoPrime]."""
    kinds = book(form, p)[0]
    # The first entry is the form as it stands, which may be another one than the least of its kind.
    homeward = back(least(form)[1])
    forms = [[list(row) for row in form]] + kinds[1:]
    entries = []
    for entry_form in forms:
        links = [link_by(entry_form, p, line, kinds, homeward) for line in lines(entry_form, p)]
        entries.append((entry_form, links))
    return p, entries


def is_tuple_of(many, thing):
    """Whether any thing is a tuple of so many."""
    return isinstance(thing, tuple) and len(thing) == many


def is_entry(thing, halved):
    """Whether any thing is a tuple of a form of a half determinant and a list."""
    if not is_tuple_of(2, thing):
        return False
    entry_form, links = thing
    return is_form(entry_form) and determinant(entry_form) == 2 * halved and isinstance(links, list)


def is_link(thing, form, p, line, forms):
    """Whether any thing is a link of a form by a line to one of the forms."""
    if not is_tuple_of(3, thing):
        return False
    told, step, number = thing
    if not is_row(told) or told != line or not is_whole(number) or number < 0 or number >= len(forms):
        return False
    return steps_along(form, p, line, step) and made_by(form, p, step) == forms[number]


def has_right_links(entry, p, forms):
    """Whether the links of an entry are one for each of its lines, in order."""
    form, links = entry
    told = lines(form, p)
    if len(links) != len(told):
        return False
    return all(is_link(link, form, p, line, forms) for link, line in zip(links, told))


def is_right(form, paper):
    """Whether any thing is a right paper for a form [NoForm, TooGreat]."""
    halved = booked_half(form)
    if not is_tuple_of(2, paper):
        return False
    p, entries = paper
    if not is_prime_by(halved, p) or not isinstance(entries, list) or not entries:
        return False
    if not all(is_entry(entry, halved) for entry in entries):
        return False
    forms = [entry[0] for entry in entries]
    return forms[0] == form and all(has_right_links(entry, p, forms) for entry in entries)
