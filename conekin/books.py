"""The book of kin: all kinds that can be reached from a form by steps, and how many lines lead to which."""

from conekin.beside import first_step, made_by
from conekin.cone import lines, refuse_no_prime
from conekin.errors import NoPrime, TooGreat
from conekin.forms import half
from conekin.least import least

GREATEST_BOOKED = 100


def booked_half(form):
    """The half determinant of a form that can have a book [NoForm, TooGreat]."""
    told = half(form)
    if told > GREATEST_BOOKED:
        raise TooGreat(f"the half determinant is above {GREATEST_BOOKED}")
    return told


def refuse_no_book(form, p):
    """Lets by a form that can have a book, and its primes [NoForm, TooGreat, NoPrime]."""
    booked_half(form)
    refuse_no_prime(form, p)


def kinds_beside(form, p):
    """The least forms of what is beside a form, by each of its lines in order."""
    return [least(made_by(form, p, first_step(form, p, line)))[0] for line in lines(form, p)]


def kinds_met(form, primes):
    """A tuple (kinds, met) of all kinds that can be reached by steps of the primes.

    Met tells, for each kind, what is beside it: a list of least forms for each prime.
    """
    kinds, met = [least(form)[0]], []
    while len(met) < len(kinds):
        found = [kinds_beside(kinds[len(met)], p) for p in primes]
        for by_prime in found:
            for kind in by_prime:
                if kind not in kinds:
                    kinds.append(kind)
        met.append(found)
    return kinds, met


def counted(kinds, met, at):
    """How many lines of the prime at one place lead from each kind to each kind."""
    return [[found[at].count(kind) for kind in kinds] for found in met]


def book(form, p):
    """A tuple (kinds, counts) [NoForm, TooGreat, NoPrime]."""
    refuse_no_book(form, p)
    kinds, met = kinds_met(form, [p])
    return kinds, counted(kinds, met, 0)


def kin_by_two(form, p, q):
    """A tuple (kinds, counts by the first prime, counts by the second one) [NoForm, TooGreat, NoPrime]."""
    refuse_no_book(form, p)
    refuse_no_prime(form, q)
    if p == q:
        raise NoPrime("the primes are the same")
    kinds, met = kinds_met(form, [p, q])
    return kinds, counted(kinds, met, 0), counted(kinds, met, 1)
