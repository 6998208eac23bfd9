"""Counts led: how many rows of a worth the kinds of a book have, led by its counts, and the same from one form."""

from conekin.books import book, booked_half, refuse_no_book
from conekin.rows import GREATEST_WORTH, how_many, refuse_others


def sign(form, p, n):
    """0 where p divides n, else 1 or -1: whether the contrary of n times the half determinant is a square by p.

    [NoForm, TooGreat, NoPrime]
    """
    refuse_no_book(form, p)
    left = -n * booked_half(form) % p
    if left == 0:
        return 0
    return 1 if any(number * number % p == left for number in range(1, p)) else -1


def refuse_not_led(form, p, n):
    """Lets by worths whose p p times can be counted [NoForm, TooGreat, NoPrime, NoWorth]."""
    refuse_no_book(form, p)
    refuse_others(n, GREATEST_WORTH // (p * p))


def led(form, p, n):
    """The count of a worth led by the book [NoForm, TooGreat, NoPrime, NoWorth]."""
    refuse_not_led(form, p, n)
    kinds, counts = book(form, p)
    return sum(times * how_many(kind, n) for times, kind in zip(counts[0], kinds))


def led_alone(form, p, n):
    """The same count, told from the form alone [NoForm, TooGreat, NoPrime, NoWorth]."""
    refuse_not_led(form, p, n)
    square = p * p
    told = how_many(form, square * n) + sign(form, p, n) * how_many(form, n)
    if n % square == 0:
        told += p * how_many(form, n // square)
    return told
