"""Points 11, 12 and 13: least forms, and whether two forms are alike."""

import unittest

from conekin.errors import NoForm, TooGreat
from conekin.least import alike, least
from conekin.rows import counts_to
from tests import samples
from tests.samples import LEAST_HALF, NEAR_FORMS, ONE, even_table, order_list

SQUARES = even_table(2, 2, 2, 0, 0, 0)
TOO_GREAT = even_table(2, 2, 134, 1, 0, 0)
NO_FORM = even_table(2, 2, 2, -1, -1, -1)


def unlike_pairs(halves):
    """Least forms of the same half determinants that are not the same."""
    for half in halves:
        told = sorted({tuple(samples.plain_least(form)) for form in samples.small_forms(half)})
        for at, one in enumerate(told):
            for other in told[:at]:
                yield even_table(*one), even_table(*other)


class Checks(unittest.TestCase):
    def carries(self, one, basis, other):
        """That the basis carries the one to the other."""
        self.assertEqual([len(row) for row in basis], [3, 3, 3])
        self.assertIn(samples.plain_determinant(basis), (1, -1))
        self.assertEqual(samples.plain_carried(one, basis), other)


class Least(Checks):
    def right(self, form, wanted):
        """That the least form of a form is the wanted one, and the told basis carries to it."""
        with samples.in_time(20):
            told = least(form)
        self.assertIs(type(told), tuple)
        self.assertEqual(len(told), 2)
        self.assertEqual(order_list(told[0]), wanted)
        self.carries(form, told[1], told[0])

    def test_by_hand(self):
        self.right(SQUARES, [2, 2, 2, 0, 0, 0])
        self.right(LEAST_HALF, [2, 2, 2, -1, -1, 0])
        self.right(even_table(6, 2, 2, 0, 0, 1), [2, 2, 6, -1, 0, 0])
        self.right([[2, 11, 0], [11, 62, 0], [0, 0, 6]], [2, 2, 6, -1, 0, 0])

    def test_first_of_its_kind(self):
        for half in range(2, 31):
            for form in samples.small_forms(half):
                with self.subTest(form=form):
                    self.right(form, samples.plain_least(form))

    def test_first_of_its_kind_of_all_halves(self):
        for half in range(31, 201):
            told = list(samples.small_forms(half))
            for form in told[half % 7::max(60, len(told) // 2)]:
                with self.subTest(form=form):
                    self.right(form, samples.plain_least(form))

    def test_as_point_13_says(self):
        for half in range(2, 201):
            for form in list(samples.small_forms(half))[::9]:
                told = least(form)[0]
                a, b, c, d, e, f = order_list(told)
                self.assertEqual(told, even_table(a, b, c, d, e, f))
                self.assertTrue(a <= b <= c)
                self.assertLessEqual(2 * max(abs(d), abs(e)), a)
                self.assertLessEqual(2 * abs(f), b)
                self.assertEqual(samples.plain_determinant(told), 2 * half)
                self.assertLessEqual(a * b * c, 4 * half)
                self.assertLessEqual(order_list(told), order_list(form))
                self.assertEqual(least(told)[0], told)

    def test_the_same_for_all_forms_carried_from_one(self):
        for form in NEAR_FORMS:
            wanted = samples.plain_least(form)
            self.right(form, wanted)
            for basis in samples.bases(1) + samples.bases(4) + samples.far_bases(form):
                self.right(samples.plain_carried(form, basis), wanted)

    def test_its_own_least_one(self):
        for form in NEAR_FORMS:
            told = least(form)[0]
            self.right(told, order_list(told))


class Alike(Checks):
    def test_of_a_form_with_itself(self):
        for form in NEAR_FORMS:
            self.carries(form, alike(form, form), form)
            far = samples.plain_carried(form, samples.far_bases(form)[-1])
            self.carries(far, alike(far, far), far)

    def test_of_forms_carried_from_one(self):
        for form in NEAR_FORMS:
            told = samples.bases(1)[::3] + samples.far_bases(form)
            for one, other in list(zip(told, reversed(told)))[::2]:
                first, second = samples.plain_carried(form, one), samples.plain_carried(form, other)
                with samples.in_time(20):
                    self.carries(first, alike(first, second), second)
                    self.carries(form, alike(form, first), first)
                    self.carries(first, alike(first, form), form)

    def test_none_of_unlike_kinds(self):
        for at, one in enumerate(NEAR_FORMS):
            for other in NEAR_FORMS[:at]:
                self.assertIsNone(alike(one, other))
                self.assertIsNone(alike(other, one))

    def test_none_of_unlike_kinds_of_one_half(self):
        told = list(unlike_pairs((6, 8, 12, 24, 27, 32, 60)))
        self.assertGreater(len(told), 20)
        for one, other in told:
            self.assertIsNone(alike(one, other))
            for basis in samples.far_bases(one)[-1:]:
                far = samples.plain_carried(one, basis)
                self.assertIsNone(alike(far, other))
                self.assertIsNone(alike(other, far))
                self.carries(far, alike(far, one), one)

    def test_alike_forms_have_the_same_counts(self):
        for one, other in unlike_pairs((12, 24)):
            self.assertNotEqual(counts_to(one, 60), counts_to(other, 60))
            self.assertEqual(counts_to(samples.plain_carried(one, samples.bases(9)[5]), 60), counts_to(one, 60))

    def test_the_order_of_refusals(self):
        no_forms = [NO_FORM, ONE, None, True, [], TOO_GREAT[:2], tuple(TOO_GREAT)]
        for no_form in no_forms:
            for thing in no_forms + [SQUARES, TOO_GREAT]:
                with self.assertRaises(NoForm):
                    alike(no_form, thing)
            with self.assertRaises(NoForm):
                alike(SQUARES, no_form)
            with self.assertRaises(TooGreat):
                alike(TOO_GREAT, no_form)
        for one, other in ((TOO_GREAT, TOO_GREAT), (TOO_GREAT, SQUARES), (SQUARES, TOO_GREAT)):
            with self.assertRaises(TooGreat):
                alike(one, other)


if __name__ == "__main__":
    unittest.main()
