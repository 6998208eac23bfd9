"""Points 21 to 24: the book of kin, and the kin by two primes."""

import unittest
from itertools import permutations

from conekin.beside import beside
from conekin.books import book, kin_by_two
from conekin.errors import NoForm, NoPrime, TooGreat
from conekin.least import least
from conekin.near import near
from conekin.turnings import turnings_many
from tests import samples
from tests.samples import BOOKED_FORMS, LEAST_HALF, PRIMES, THIRTY, even_table, order_list, plain_lines, primes_of

SQUARES = even_table(2, 2, 2, 0, 0, 0)
NO_FORM = even_table(2, 2, 2, -1, -1, -1)
# Half determinants 101, 102, 200 and 201.
TOO_GREAT = [even_table(2, 2, 68, -1, -1, 0), even_table(2, 2, 68, 1, 0, 0), even_table(2, 2, 100, 0, 0, 0)]
TOO_GREAT += [even_table(2, 2, 134, 1, 0, 0)]


def lines_lead_to(form, p):
    """The least form of what is beside the form by each line."""
    return [least(beside(form, p, line)[0])[0] for line in plain_lines(form, p)]


def plain_kin(form, primes):
    """The kinds in the order of points 21 and 23, and for each prime the counts, line by line."""
    kinds, at = [least(form)[0]], 0
    while at < len(kinds):
        for p in primes:
            for kind in lines_lead_to(kinds[at], p):
                if kind not in kinds:
                    kinds.append(kind)
        at += 1
    counts = []
    for p in primes:
        table = [[0] * len(kinds) for kind in kinds]
        for at, kind in enumerate(kinds):
            for other in lines_lead_to(kind, p):
                table[at][kinds.index(other)] += 1
        counts.append(table)
    return kinds, counts


def multiplied(one, other):
    many = range(len(one))
    return [[sum(one[i][k] * other[k][j] for k in many) for j in many] for i in many]


def far_forms(form):
    """The same form by bases that make its numbers great."""
    return [samples.plain_carried(form, basis) for basis in samples.bases(2)[:1] + samples.far_bases(form)[-2:]]


class Checks(unittest.TestCase):
    def kinds_right(self, form, kinds):
        """That the kinds are least forms of the form's half determinant, each once, the form's own first."""
        self.assertIs(type(kinds), list)
        self.assertEqual(kinds[0], least(form)[0])
        for at, kind in enumerate(kinds):
            self.assertEqual(least(kind)[0], kind)
            self.assertEqual(samples.plain_determinant(kind), samples.plain_determinant(form))
            self.assertNotIn(kind, kinds[:at])

    def counts_right(self, kinds, p, counts):
        """That the counts come to p + 1, are balanced by turnings, and are those of the lines."""
        many = range(len(kinds))
        self.assertEqual([type(counts)] + [type(row) for row in counts], [list] * (len(kinds) + 1))
        self.assertEqual([len(row) for row in counts], [len(kinds)] * len(kinds))
        self.assertEqual({type(number) for row in counts for number in row}, {int})
        self.assertEqual([sum(row) for row in counts], [p + 1] * len(kinds))
        turns = [turnings_many(kind) for kind in kinds]
        self.assertTrue(all(counts[a][b] * turns[b] == counts[b][a] * turns[a] for a in many for b in many))
        for a in many:
            told = lines_lead_to(kinds[a], p)
            self.assertEqual(counts[a], [told.count(kind) for kind in kinds])


class Book(Checks):
    def right(self, form, p):
        with samples.in_time(20):
            told = book(form, p)
        self.assertIs(type(told), tuple)
        kinds, counts = told
        self.kinds_right(form, kinds)
        self.counts_right(kinds, p, counts)
        self.assertEqual((kinds, [counts]), plain_kin(form, [p]))
        return kinds

    def test_by_hand(self):
        for p in (3, 5, 7, 11, 13):
            self.assertEqual(book(SQUARES, p), ([SQUARES], [[p + 1]]))
            self.assertEqual(book(LEAST_HALF, p), ([even_table(2, 2, 2, -1, -1, 0)], [[p + 1]]))

    def test_two_kinds_by_hand(self):
        # xx + yy + 4zz + xy + xz + yz, of half determinant 11: two kinds, of unlike numbers of turnings.
        kinds, counts = book(even_table(2, 2, 8, 1, 1, 1), 3)
        self.assertEqual([order_list(kind) for kind in kinds], [[2, 2, 8, -1, -1, 0], [2, 2, 6, 0, -1, 0]])
        self.assertEqual(counts, [[1, 3], [2, 2]])
        self.assertEqual([turnings_many(kind) for kind in kinds], [12, 8])

    def test_all_primes(self):
        seen = set()
        for form in BOOKED_FORMS:
            for p in primes_of(form):
                with self.subTest(form=form, p=p):
                    seen.add(len(self.right(form, p)))
        self.assertLessEqual({1, 2, 3, 5, 7}, seen)

    def test_all_kinds_of_a_book_have_books(self):
        for form in BOOKED_FORMS[4:9]:
            p = primes_of(form)[0]
            kinds, counts = book(form, p)
            orders = []
            for kind in kinds:
                told = self.right(kind, p)
                self.assertEqual(sorted(told), sorted(kinds))
                orders.append(told)
            # Each one stands first in its own.
            self.assertEqual([told[0] for told in orders], kinds)

    def test_all_halves(self):
        for half in range(2, 101):
            told = list(samples.small_forms(half))
            form = told[half % len(told)]
            p = primes_of(form)[half % len(primes_of(form))]
            kinds, counts = book(form, p)
            self.kinds_right(form, kinds)
            self.assertEqual([sum(row) for row in counts], [p + 1] * len(kinds))
            turns = [turnings_many(kind) for kind in kinds]
            for a in range(len(kinds)):
                self.assertEqual([counts[a][b] * turns[b] for b in range(len(kinds))],
                                 [counts[b][a] * turns[a] for b in range(len(kinds))])

    def test_kinds_found_by_going_through_bases(self):
        for half in range(2, 19):
            for form in list(samples.small_forms(half))[::7]:
                p = primes_of(form)[0]
                kinds, counts = book(form, p)
                for at, kind in enumerate(kinds):
                    made = [near(beside(kind, p, line)[0])[0] for line in plain_lines(kind, p)]
                    told = [even_table(*samples.plain_least(one)) for one in made]
                    self.assertEqual(counts[at], [told.count(other) for other in kinds])

    def test_forms_of_great_numbers(self):
        for form in BOOKED_FORMS:
            wanted = book(form, 7)
            for far in far_forms(form):
                with samples.in_time(20):
                    self.assertEqual(book(far, 7), wanted)
        far = far_forms(BOOKED_FORMS[6])[-1]
        self.assertGreater(max(abs(number) for row in far for number in row), 10 ** 28)

    def test_one_prime_reaches_more_than_another(self):
        sizes = {p: len(book(even_table(2, 2, 54, -1, 0, 0), p)[0]) for p in (5, 7, 11, 13)}
        self.assertEqual(sizes, {5: 3, 7: 2, 11: 3, 13: 2})


class KinByTwo(Checks):
    def right(self, form, p, q):
        with samples.in_time(20):
            told = kin_by_two(form, p, q)
        self.assertIs(type(told), tuple)
        kinds, counts, others = told
        self.kinds_right(form, kinds)
        self.counts_right(kinds, p, counts)
        self.counts_right(kinds, q, others)
        self.assertEqual((kinds, [counts, others]), plain_kin(form, [p, q]))
        self.assertEqual(multiplied(counts, others), multiplied(others, counts))
        return kinds

    def test_by_hand(self):
        self.assertEqual(kin_by_two(SQUARES, 3, 13), ([SQUARES], [[4]], [[14]]))
        self.assertEqual(kin_by_two(SQUARES, 7, 5), ([SQUARES], [[8]], [[6]]))

    def test_pairs_of_primes(self):
        for form in BOOKED_FORMS:
            told = primes_of(form)
            for p, q in list(permutations(told, 2))[::3] if len(told) > 3 else permutations(told, 2):
                with self.subTest(form=form, p=p, q=q):
                    self.right(form, p, q)

    def test_the_order_hangs_on_which_prime_is_first(self):
        form = even_table(2, 4, 18, 0, 0, -1)
        orders = [kin_by_two(form, p, q)[0] for p, q in permutations((3, 5, 7), 2)]
        self.assertTrue(all(sorted(told) == sorted(orders[0]) for told in orders))
        self.assertTrue(any(told != orders[0] for told in orders))
        # The second prime's kinds follow straight behind those of the first one, ahead of the next kind's.
        self.assertTrue(any(told != book(form, p)[0] for told, (p, q) in zip(orders, permutations((3, 5, 7), 2))))

    def test_kinds_that_one_prime_alone_reaches(self):
        form = even_table(2, 2, 54, -1, 0, 0)
        kinds, counts, others = kin_by_two(form, 7, 5)
        alone = book(form, 7)[0]
        self.assertEqual((len(kinds), len(alone)), (3, 2))
        self.assertEqual(sorted(kinds), sorted(book(form, 5)[0]))
        left = [at for at, kind in enumerate(kinds) if kind not in alone]
        self.assertEqual([counts[0][at] for at in left], [0])
        self.assertEqual(len(kin_by_two(form, 7, 13)[0]), 2)

    def test_forms_of_great_numbers(self):
        for form in BOOKED_FORMS[2:9]:
            p, q = primes_of(form)[-2:]
            wanted = kin_by_two(form, p, q)
            for far in far_forms(form):
                with samples.in_time(20):
                    self.assertEqual(kin_by_two(far, p, q), wanted)


class Refused(unittest.TestCase):
    def refused(self, error, call, *handed):
        with self.subTest(handed=handed), self.assertRaises(error) as caught:
            call(*handed)
        self.assertIs(type(caught.exception), error)

    def test_no_prime_of_any_thing(self):
        for form in (SQUARES, even_table(2, 2, 2, 1, 0, 0)):
            for thing in samples.no_primes():
                self.refused(NoPrime, book, form, thing)
                self.refused(NoPrime, kin_by_two, form, thing, 5)
                self.refused(NoPrime, kin_by_two, form, 5, thing)
                self.refused(NoPrime, kin_by_two, form, thing, thing)

    def test_primes_that_divide_the_half(self):
        for form in BOOKED_FORMS:
            right = primes_of(form)
            for p in PRIMES:
                if p not in right:
                    self.refused(NoPrime, book, form, p)
                    self.refused(NoPrime, kin_by_two, form, p, right[0])
                    self.refused(NoPrime, kin_by_two, form, right[0], p)

    def test_the_same_prime_twice(self):
        for form in BOOKED_FORMS:
            for p in PRIMES:
                self.refused(NoPrime, kin_by_two, form, p, p)

    def test_too_great_above_100(self):
        self.assertEqual([samples.plain_determinant(form) for form in TOO_GREAT], [202, 204, 400, 402])
        far = [samples.plain_carried(form, samples.far_bases(form)[-1]) for form in TOO_GREAT]
        for form in TOO_GREAT + far:
            for p in (3, 5, 7, 101, 0, True, None, "7", [7]):
                self.refused(TooGreat, book, form, p)
                for q in (3, 7, 11, p, None):
                    self.refused(TooGreat, kin_by_two, form, p, q)

    def test_the_greatest_that_are_taken(self):
        form = even_table(2, 2, 50, 0, 0, 0)
        self.assertEqual(samples.plain_determinant(form), 200)
        for p in (3, 7, 11, 13):
            book(form, p)
        kin_by_two(form, 3, 7)

    def test_no_form_comes_first(self):
        no_forms = samples.any_things() + samples.wrong_shapes(TOO_GREAT[0]) + [NO_FORM, TOO_GREAT[3][:2]]
        for thing in no_forms:
            for p in (3, 7, 0, True, None, THIRTY):
                self.refused(NoForm, book, thing, p)
                self.refused(NoForm, kin_by_two, thing, p, 7)


if __name__ == "__main__":
    unittest.main()
