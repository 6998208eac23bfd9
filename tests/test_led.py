"""Points 25, 26 and 27: the sign, counts led by the book, and the same from the form alone."""

import unittest

from conekin.books import book
from conekin.errors import NoForm, NoPrime, NoWorth, TooGreat
from conekin.led import led, led_alone, sign
from conekin.near import near
from tests import samples
from tests.samples import BOOKED_FORMS, PRIMES, THIRTY, even_table, plain_sign, primes_of

SQUARES = even_table(2, 2, 2, 0, 0, 0)
NO_FORM = even_table(2, 2, 2, -1, -1, -1)
# Half determinants 101, 200 and 201.
TOO_GREAT = [even_table(2, 2, 68, -1, -1, 0), even_table(2, 2, 100, 0, 0, 0), even_table(2, 2, 134, 1, 0, 0)]
NO_WORTHS = [-1, -2, -9, -600, -THIRTY, 67, 600, 601, THIRTY, True, False, None, "", "0", "1", [], [0], [1], (), (1,)]
NO_WORTHS += samples.any_things()[7:]


def cases():
    """Forms with their primes, some as they stand, some of great numbers."""
    for at, form in enumerate(BOOKED_FORMS):
        for p in primes_of(form):
            basis = samples.far_bases(form)[-1 - at % 3]
            yield form, samples.plain_carried(form, basis) if (at + p) % 4 else form, p


class Sign(unittest.TestCase):
    def test_by_hand(self):
        # The half determinant is 4, a square itself: 1 is a contrary of a square by 5 and by 13, not by the others.
        self.assertEqual([sign(SQUARES, p, 1) for p in PRIMES], [-1, 1, -1, -1, 1])
        self.assertEqual([sign(SQUARES, p, -1) for p in PRIMES], [1, 1, 1, 1, 1])
        self.assertEqual([sign(SQUARES, 3, n) for n in range(-3, 4)], [0, -1, 1, 0, -1, 1, 0])
        # The half determinant is 3, no square by 5.
        self.assertEqual([sign(even_table(2, 2, 2, 1, 0, 0), 5, n) for n in range(6)], [0, -1, 1, 1, -1, 0])

    def test_against_the_squares(self):
        for form, far, p in cases():
            numbers = list(range(-2 * p, 2 * p + 1)) + [p * p, -p * p, THIRTY, -THIRTY, THIRTY // p * p, -10 ** 29]
            numbers += [THIRTY - k for k in range(p)] + [k - THIRTY for k in range(p)]
            for n in numbers:
                told = sign(far, p, n)
                self.assertIs(type(told), int)
                self.assertEqual(told, plain_sign(form, p, n), (form, p, n))

    def test_all_halves(self):
        for half in range(2, 101):
            form = next(samples.small_forms(half))
            for p in primes_of(form):
                told = [sign(form, p, n) for n in range(p)]
                self.assertEqual(told, [plain_sign(form, p, n) for n in range(p)])
                self.assertEqual((told.count(0), told.count(1)), (1, p // 2))


class Led(unittest.TestCase):
    def test_by_hand(self):
        # Of the sum of three squares: 1, 6, 12, 8, 6, 24 rows of the worths 0 to 5.
        for p, most in ((3, 66), (5, 24), (7, 12), (11, 4), (13, 3)):
            told = [p + 1, 6 * (p + 1), 12 * (p + 1), 8 * (p + 1)]
            self.assertEqual([led(SQUARES, p, n) for n in range(4)], told)
            self.assertEqual([led_alone(SQUARES, p, n) for n in range(4)], told)
            for call in (led, led_alone):
                call(SQUARES, p, most)
                with self.assertRaises(NoWorth):
                    call(SQUARES, p, most + 1)

    def test_led_against_the_sum(self):
        for form, far, p in cases():
            kinds, counts = book(form, p)
            most = 600 // (p * p)
            rows = [samples.plain_rows(kind, most) for kind in kinds]
            for n in sorted({0, 1, 2, p, most // 2, most - 1, most} & set(range(most + 1))):
                wanted = sum(times * len(one[n]) for times, one in zip(counts[0], rows))
                with samples.in_time(20):
                    told = led(far, p, n)
                self.assertIs(type(told), int)
                self.assertEqual(told, wanted, (form, p, n))

    def test_led_alone_against_going_through_the_rows(self):
        for form, far, p in list(cases())[::3]:
            square = p * p
            rows = samples.plain_rows(near(form)[0], 600)
            for n in range(600 // square + 1):
                wanted = len(rows[square * n]) + plain_sign(form, p, n) * len(rows[n])
                if n % square == 0:
                    wanted += p * len(rows[n // square])
                self.assertEqual(led_alone(far, p, n), wanted, (form, p, n))

    def test_led_alone_tells_the_same(self):
        divided = 0
        for form, far, p in cases():
            most = 600 // (p * p)
            for n in list(range(0, most + 1, 1 if p > 5 else 5)) + list(range(0, most + 1, p * p)):
                with samples.in_time(20):
                    told = led_alone(far, p, n)
                self.assertIs(type(told), int)
                self.assertEqual(told, led(far, p, n), (form, p, n))
                divided += n > 0 and n % (p * p) == 0
        self.assertGreater(divided, 10)

    def test_rows_of_the_own_row_of_the_book(self):
        # Two kinds of one book, led by unlike rows of the same counts.
        form = even_table(2, 2, 32, -1, -1, 0)
        kinds, counts = book(form, 3)
        for kind in kinds:
            own, table = book(kind, 3)
            for n in (1, 2, 5, 9):
                wanted = sum(times * len(samples.plain_rows(one, n)[n]) for times, one in zip(table[0], own))
                self.assertEqual(led(kind, 3, n), wanted)
                self.assertEqual(led_alone(kind, 3, n), wanted)
        self.assertNotEqual([led(kinds[0], 3, n) for n in range(9)], [led(kinds[1], 3, n) for n in range(9)])


class Refused(unittest.TestCase):
    def refused(self, error, form, p, n):
        for call in (led, led_alone):
            with self.subTest(form=form, p=p, n=n), self.assertRaises(error) as caught:
                call(form, p, n)
            self.assertIs(type(caught.exception), error)

    def sign_refused(self, error, form, p):
        with self.subTest(form=form, p=p), self.assertRaises(error) as caught:
            sign(form, p, 1)
        self.assertIs(type(caught.exception), error)

    def test_no_worth_of_any_thing(self):
        for p in PRIMES:
            for thing in NO_WORTHS:
                self.refused(NoWorth, SQUARES, p, thing)
            self.refused(NoWorth, SQUARES, p, 600 // (p * p) + 1)

    def test_no_prime(self):
        for form in (SQUARES, even_table(2, 2, 2, 1, 0, 0)):
            for thing in samples.no_primes():
                self.sign_refused(NoPrime, form, thing)
                for n in (0, 1, 600, True, None, "1"):
                    self.refused(NoPrime, form, thing, n)
        for form in BOOKED_FORMS:
            for p in PRIMES:
                if p not in primes_of(form):
                    self.sign_refused(NoPrime, form, p)
                    self.refused(NoPrime, form, p, 1)
                    self.refused(NoPrime, form, p, None)

    def test_too_great_above_100(self):
        far = [samples.plain_carried(form, samples.far_bases(form)[-1]) for form in TOO_GREAT]
        for form in TOO_GREAT + far:
            for p in (3, 7, 101, 0, None, True):
                self.sign_refused(TooGreat, form, p)
                for n in (0, 1, 601, None, True):
                    self.refused(TooGreat, form, p, n)

    def test_no_form_comes_first(self):
        for thing in samples.any_things() + samples.wrong_shapes(TOO_GREAT[0]) + [NO_FORM]:
            for p in (3, 7, 0, None):
                self.sign_refused(NoForm, thing, p)
                for n in (1, 601, None):
                    self.refused(NoForm, thing, p, n)


if __name__ == "__main__":
    unittest.main()
