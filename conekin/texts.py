"""Texts: forms written as sums of the letters x, y, z, and numbers written in figures."""

from conekin.errors import NoText
from conekin.forms import half

FIGURES = "0123456789"
MOST_FIGURES = 30
LETTERS = ("xx", "yy", "zz", "xy", "xz", "yz")


def is_figures(text):
    """Whether a text is a number from 0 on, written in figures."""
    if text == "" or len(text) > MOST_FIGURES or any(sign not in FIGURES for sign in text):
        return False
    return text == "0" or text[0] != "0"


def is_number(text):
    """Whether a text is a number, written in figures, with a `-` straight ahead of one below 0."""
    if text.startswith("-"):
        return text != "-0" and is_figures(text[1:])
    return is_figures(text)


def numbers_of(form):
    """The numbers of a form's terms, in the order in which they are written."""
    return [form[i][i] // 2 for i in range(3)] + [form[0][1], form[0][2], form[1][2]]


def table_of(numbers):
    """The table that has these numbers of terms."""
    x, y, z, mixed, far, last = numbers
    return [[2 * x, mixed, far], [mixed, 2 * y, last], [far, last, 2 * z]]


def term(number, letters):
    """A term without its sign."""
    return letters if number in (1, -1) else f"{abs(number)}{letters}"


def show(form):
    """The text of a form [NoForm, TooGreat]."""
    half(form)
    numbers = numbers_of(form)
    # The first term of a form is that of xx, and above 0.
    told = term(numbers[0], LETTERS[0])
    for number, letters in zip(numbers[1:], LETTERS[1:]):
        if number != 0:
            joint = " + " if number > 0 else " - "
            told += joint + term(number, letters)
    return told


def term_number(word):
    """The number of a term that is written without a sign [NoText]."""
    figures = word[:-2]
    if figures == "":
        return 1
    if not is_figures(figures) or figures in ("0", "1"):
        raise NoText("this number is not written so")
    return int(figures)


def signed_terms(text):
    """A list of tuples (sign, term) [NoText]."""
    first, *others = text.split(" ")
    if len(others) % 2 != 0:
        raise NoText("a sign or a term is missing")
    lead = "-" if first.startswith("-") else "+"
    return [(lead, first.removeprefix("-"))] + list(zip(others[::2], others[1::2]))


def read(text):
    """The form that a text tells [NoText, NoForm, TooGreat]."""
    numbers = [0] * len(LETTERS)
    # The terms are read in their order, so each one's place is behind that of the one before.
    free = 0
    for sign, word in signed_terms(text):
        if sign not in ("+", "-") or word[-2:] not in LETTERS[free:]:
            raise NoText("this is not written as forms are")
        at = LETTERS.index(word[-2:])
        numbers[at] = term_number(word) if sign == "+" else -term_number(word)
        free = at + 1
    told = table_of(numbers)
    half(told)
    return told
