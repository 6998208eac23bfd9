"""The form beside a form: made by a step along a line on the cone, from which a line leads back."""

from conekin.cone import first_lift, last_slope, line_under, refuse_no_line, slopes, upturned
from conekin.errors import NoStep
from conekin.forms import pairing
from conekin.tables import carried, cover, determinant, is_table


def first_step(form, p, line):
    """A step of a form, its prime and their line, whose first row is the lift."""
    # A good row is a number of times the lift, and p times a row whose pairing with the lift is divided by p. The
    # lift has the line's leading 1 still, so it and the rows with 1 at one of the two other places are a basis. One
    # of these two has a slope: the other one is moved aside there until its pairing is divided by p, and p times
    # the sloping row has such a pairing.
    slants = slopes(form, p, line)
    at = last_slope(slants)
    other = 3 - at - line.index(1)
    aside, sloping = [0, 0, 0], [0, 0, 0]
    aside[other] = p
    aside[at] = -slants[other] * upturned(slants[at], p) % p * p
    sloping[at] = p * p
    return [first_lift(form, p, line), aside, sloping]


def made_by(form, p, step):
    """The form carried by a step, each number divided by p p."""
    return [[number // (p * p) for number in row] for row in carried(form, step)]


def is_good(form, p, line, lifted, row):
    """Whether a row is good for a line that has this lift."""
    times = row[line.index(1)]
    if any((number - times * there) % p != 0 for number, there in zip(row, line)):
        return False
    return pairing(form, lifted, row) % (p * p) == 0


def steps_along(form, p, line, table):
    """Whether any thing is a step of a form, its prime and their line."""
    if not is_table(table) or abs(determinant(table)) != p * p * p:
        return False
    lifted = first_lift(form, p, line)
    return all(is_good(form, p, line, lifted, row) for row in table)


def beside(form, p, line):
    """A tuple (form beside, step that makes it) [NoForm, TooGreat, NoPrime, NoLine]."""
    refuse_no_line(form, p, line)
    step = first_step(form, p, line)
    return made_by(form, p, step), step


def is_step(form, p, line, table):
    """Whether a table is a step [NoForm, TooGreat, NoPrime, NoLine]."""
    refuse_no_line(form, p, line)
    return steps_along(form, p, line, table)


def way_back(form, p, line, step):
    """A tuple (line, step) that leads back from the form that a step makes.

    [NoForm, TooGreat, NoPrime, NoLine, NoStep]
    """
    refuse_no_line(form, p, line)
    if not steps_along(form, p, line, step):
        raise NoStep("this is no step of the form, the prime and the line")
    # The cover is the determinant times what undoes the step, and the determinant is p p p with a sign.
    signed = determinant(step) // (p * p)
    homeward = [[number // signed for number in row] for row in cover(step)]
    made = made_by(form, p, step)
    # The rows are numbers of times the line, and those divided by p do not tell it.
    told = [line_under(made, p, row) for row in homeward]
    return [found for found in told if found is not None][0], homeward
