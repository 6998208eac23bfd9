"""Points 28, 29 and 30: the weight of a book, shared counts, and the polynomial."""

import random
import unittest
from fractions import Fraction
from itertools import permutations
from math import gcd, prod

from conekin.books import book
from conekin.errors import NoForm, NoPrime, NoWorth, TooGreat
from conekin.shares import polynomial, shared, weight
from conekin.turnings import turnings_many
from tests import samples
from tests.samples import BOOKED_FORMS, LEAST_HALF, PRIMES, THIRTY, even_table, plain_sign, primes_of

SQUARES = even_table(2, 2, 2, 0, 0, 0)
NO_FORM = even_table(2, 2, 2, -1, -1, -1)
# Half determinants 101, 200 and 201.
TOO_GREAT = [even_table(2, 2, 68, -1, -1, 0), even_table(2, 2, 100, 0, 0, 0), even_table(2, 2, 134, 1, 0, 0)]
NO_WORTHS = [-1, -2, -350, -THIRTY, 351, 352, 600, THIRTY, True, False, None, "", "0", "350", [], [0], [1], (), (1,)]
NO_WORTHS += samples.any_things()[7:]


def far(form):
    return samples.plain_carried(form, samples.far_bases(form)[-1])


class Checks(unittest.TestCase):
    def fraction(self, told):
        """The fraction told, in lowest terms, bottom from 1 on."""
        self.assertIs(type(told), tuple)
        self.assertEqual([type(number) for number in told], [int, int])
        top, bottom = told
        self.assertGreaterEqual(bottom, 1)
        self.assertEqual(gcd(top, bottom), 1)
        return Fraction(top, bottom)


class Weight(Checks):
    def test_by_hand(self):
        self.assertEqual([weight(SQUARES, p) for p in PRIMES], [(1, 48)] * 5)
        self.assertEqual(weight(LEAST_HALF, 3), (1, 48))
        # Two kinds, of 12 and 8 turnings.
        self.assertEqual(weight(even_table(2, 2, 8, 1, 1, 1), 3), (5, 24))

    def test_against_the_sum(self):
        for form in BOOKED_FORMS:
            for p in primes_of(form):
                wanted = sum(Fraction(1, turnings_many(kind)) for kind in book(form, p)[0])
                self.assertEqual(self.fraction(weight(form, p)), wanted)
            with samples.in_time(20):
                self.assertEqual(weight(far(form), p), weight(form, p))

    def test_the_same_for_all_kinds_of_a_book(self):
        for form in BOOKED_FORMS[3:9]:
            p = primes_of(form)[0]
            self.assertEqual({weight(kind, p) for kind in book(form, p)[0]}, {weight(form, p)})


class Shared(Checks):
    def test_by_hand(self):
        # Of the sum of three squares: 1, 6, 12, 8, 6, 24, 24, 0 rows of the worths 0 to 7.
        self.assertEqual([shared(SQUARES, 3, n) for n in range(8)],
                         [(1, 48), (1, 8), (1, 4), (1, 6), (1, 8), (1, 2), (1, 2), (0, 1)])

    def test_against_the_sum(self):
        for at, form in enumerate(BOOKED_FORMS):
            p = primes_of(form)[at % len(primes_of(form))]
            kinds = book(form, p)[0]
            rows = [samples.plain_rows(kind, 350) for kind in kinds]
            for n in (0, 1, 2, 3, 7, 48, 100 + at, 349, 350):
                wanted = sum(Fraction(len(one[n]), turnings_many(kind)) for one, kind in zip(rows, kinds))
                with samples.in_time(20):
                    told = shared(far(form) if at % 2 else form, p, n)
                self.assertEqual(self.fraction(told), wanted, (form, p, n))

    def test_of_nought_it_is_the_weight(self):
        for form in BOOKED_FORMS:
            for p in primes_of(form):
                self.assertEqual(shared(form, p, 0), weight(form, p))

    def test_point_29(self):
        divided = 0
        for at, form in enumerate(BOOKED_FORMS):
            for p in primes_of(form):
                square = p * p
                most = 350 // square
                for n in sorted({0, 1, 2, 3, p, square, 2 * square, most} & set(range(most + 1))):
                    left = self.fraction(shared(form, p, square * n))
                    left += plain_sign(form, p, n) * self.fraction(shared(form, p, n))
                    if n % square == 0:
                        left += p * self.fraction(shared(form, p, n // square))
                        divided += n > 0
                    self.assertEqual(left, (p + 1) * self.fraction(shared(form, p, n)), (form, p, n))
        self.assertGreater(divided, 5)


class Refused(unittest.TestCase):
    def refused(self, error, call, *handed):
        with self.subTest(handed=handed), self.assertRaises(error) as caught:
            call(*handed)
        self.assertIs(type(caught.exception), error)

    def test_no_worth_of_any_thing(self):
        for p in (3, 13):
            for thing in NO_WORTHS:
                self.refused(NoWorth, shared, SQUARES, p, thing)
            shared(SQUARES, p, 350)

    def test_no_prime(self):
        for form in (SQUARES, even_table(2, 2, 2, 1, 0, 0)):
            for thing in samples.no_primes():
                self.refused(NoPrime, weight, form, thing)
                for n in (0, 351, None, True):
                    self.refused(NoPrime, shared, form, thing, n)
        for form in BOOKED_FORMS:
            for p in PRIMES:
                if p not in primes_of(form):
                    self.refused(NoPrime, weight, form, p)
                    self.refused(NoPrime, shared, form, p, None)

    def test_too_great_above_100(self):
        for form in TOO_GREAT + [far(TOO_GREAT[0])]:
            for p in (3, 7, 0, None, True):
                self.refused(TooGreat, weight, form, p)
                for n in (0, 351, None):
                    self.refused(TooGreat, shared, form, p, n)

    def test_no_form_comes_first(self):
        for thing in samples.any_things() + samples.wrong_shapes(TOO_GREAT[0]) + [NO_FORM]:
            for p in (3, 0, None):
                self.refused(NoForm, weight, thing, p)
                for n in (0, 351, None):
                    self.refused(NoForm, shared, thing, p, n)


def times(one, other):
    """The product of two polynomials, the power 0 first."""
    told = [0] * (len(one) + len(other) - 1)
    for i, x in enumerate(one):
        for j, y in enumerate(other):
            told[i + j] += x * y
    return told


def plain_polynomial(rows):
    """By all orders of the columns."""
    many = len(rows)
    total = [0] * (many + 1)
    for order in permutations(range(many)):
        exchanged = sum(order[i] > order[j] for i in range(many) for j in range(i + 1, many))
        term = [(-1) ** exchanged]
        for i, j in enumerate(order):
            term = times(term, [-rows[i][j], 1] if i == j else [-rows[i][j]])
        for power, number in enumerate(term):
            total[power] += number
    return total


def put(told, number):
    return sum(times * number ** power for power, times in enumerate(told))


def whole_determinant(rows):
    """By splitting off one row after another, in fractions."""
    left = [[Fraction(number) for number in row] for row in rows]
    told = Fraction(1)
    while left:
        at = next((i for i, row in enumerate(left) if row[0]), None)
        if at is None:
            return 0
        told *= (-1) ** at
        lead = left.pop(at)
        told *= lead[0]
        left = [[x - row[0] / lead[0] * y for x, y in zip(row, lead)][1:] for row in left]
    return told


def lists_of(source, many, bound):
    return [[source.randint(-bound, bound) for j in range(many)] for i in range(many)]


class Polynomial(unittest.TestCase):
    def told(self, rows):
        with samples.in_time(20):
            told = polynomial(rows)
        self.assertIs(type(told), list)
        self.assertEqual([type(number) for number in told], [int] * (len(rows) + 1))
        self.assertEqual(told[-1], 1)
        return told

    def test_by_hand(self):
        self.assertEqual(self.told([[5]]), [-5, 1])
        self.assertEqual(self.told([[0]]), [0, 1])
        self.assertEqual(self.told([[1, 2], [3, 4]]), [-2, -5, 1])
        self.assertEqual(self.told([[1, 3], [2, 2]]), [-4, -3, 1])
        self.assertEqual(self.told([[0, 1, 0], [0, 0, 1], [6, -11, 6]]), [-6, 11, -6, 1])

    def test_against_all_orders(self):
        source = random.Random(30)
        for many, times in ((1, 10), (2, 20), (3, 20), (4, 20), (5, 10), (6, 3)):
            for bound in (1, 9, THIRTY):
                for step in range(times):
                    rows = lists_of(source, many, bound)
                    self.assertEqual(self.told(rows), plain_polynomial(rows))

    def test_of_up_to_sixteen_lists(self):
        source = random.Random(16)
        for many in range(7, 17):
            for bound in (1, 20, THIRTY):
                rows = lists_of(source, many, bound)
                told = self.told(rows)
                self.assertEqual(told[-2], -sum(rows[i][i] for i in range(many)))
                # Its worths at as many numbers as it has below its highest power are all of it.
                for number in range(-many // 2, many - many // 2):
                    less = [[number * (i == j) - rows[i][j] for j in range(many)] for i in range(many)]
                    self.assertEqual(put(told, number), whole_determinant(less))

    def test_of_plain_lists(self):
        for many in range(1, 17):
            nought = [[0] * many for i in range(many)]
            self.assertEqual(self.told(nought), [0] * many + [1])
            diagonal = [[(i + 1) * (i == j) for j in range(many)] for i in range(many)]
            told = self.told(diagonal)
            self.assertEqual([put(told, number) for number in range(1, many + 1)], [0] * many)
            self.assertEqual(put(told, 0), (-1) ** many * prod(range(1, many + 1)))
            circle = [[int(j == (i + 1) % many) for j in range(many)] for i in range(many)]
            self.assertEqual(self.told(circle), [-1] + [0] * (many - 1) + [1])

    def test_one_more_than_the_prime(self):
        for form in BOOKED_FORMS:
            for p in primes_of(form):
                kinds, counts = book(form, p)
                told = self.told(counts)
                self.assertEqual(len(told), len(kinds) + 1)
                self.assertEqual(put(told, p + 1), 0)

    def test_of_unbalanced_lists_of_the_asker(self):
        rows = [[1, 2], [3, 4]]
        told = polynomial(rows)
        self.assertEqual(rows, [[1, 2], [3, 4]])
        told.append(5)
        rows[0][0] = 0
        self.assertEqual(polynomial([[1, 2], [3, 4]]), [-2, -5, 1])


if __name__ == "__main__":
    unittest.main()
