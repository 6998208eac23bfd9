"""Point 14: turnings."""

import unittest
from itertools import permutations, product as every

from conekin.turnings import turnings, turnings_many
from tests import samples
from tests.samples import LEAST_HALF, NEAR_FORMS, ONE, even_table

SQUARES = even_table(2, 2, 2, 0, 0, 0)
CONTRARY = [[-1, 0, 0], [0, -1, 0], [0, 0, -1]]


def plain_turnings(form):
    """By going through all tables of rows that have the worths on the diagonal."""
    told = samples.plain_rows(form, form[2][2] // 2)
    rows = [told[form[i][i] // 2] for i in range(3)]
    return sorted([list(basis) for basis in every(*rows) if samples.plain_carried(form, basis) == form])


class Turnings(unittest.TestCase):
    def group(self, form, told):
        """That each carries the form to itself, none stands twice, and products and backs are among them."""
        keys = {str(turning) for turning in told}
        self.assertEqual(len(keys), len(told))
        self.assertEqual(told, sorted(told))
        self.assertIn(ONE, told)
        self.assertIn(CONTRARY, told)
        self.assertEqual(48 % len(told), 0)
        for turning in told:
            self.assertEqual(samples.plain_carried(form, turning), form)
            self.assertIn(samples.plain_determinant(turning), (1, -1))
            self.assertIn(str(samples.plain_back(turning)), keys)
        for one in told[::3]:
            for other in told:
                self.assertIn(str(samples.plain_product(one, other)), keys)

    def test_three_squares(self):
        wanted = []
        for order in permutations(range(3)):
            for signs in every((1, -1), repeat=3):
                wanted.append([[signs[i] if order[i] == j else 0 for j in range(3)] for i in range(3)])
        self.assertEqual(turnings(SQUARES), sorted(wanted))
        self.assertEqual(turnings_many(SQUARES), 48)

    def test_how_many_by_hand(self):
        self.assertEqual(turnings_many(LEAST_HALF), 48)
        self.assertEqual(turnings_many(even_table(2, 2, 6, -1, 0, 0)), 24)
        self.assertEqual(turnings_many(even_table(2, 2, 100, 0, 0, 0)), 16)
        self.assertEqual(turnings_many(even_table(2, 4, 6, 0, 0, 0)), 8)
        self.assertIs(type(turnings_many(SQUARES)), int)

    def test_against_going_through_tables(self):
        told = [form for form in NEAR_FORMS if form[2][2] <= 16]
        told += [form for half in range(2, 201, 23) for form in list(samples.small_forms(half))[::60]]
        for form in told:
            if form[2][2] <= 16:
                with self.subTest(form=form):
                    self.assertEqual(turnings(form), plain_turnings(form))

    def test_groups(self):
        numbers = set()
        for half in range(2, 201, 6):
            for form in list(samples.small_forms(half))[::12]:
                told = turnings(form)
                numbers.add(len(told))
                self.group(form, told)
                self.assertEqual(turnings_many(form), len(told))
        self.assertTrue({2, 4, 8, 48} <= numbers, numbers)

    def test_alike_forms_have_as_many(self):
        for form in NEAR_FORMS:
            many = turnings_many(form)
            for basis in samples.bases(1) + samples.bases(4):
                other = samples.plain_carried(form, basis)
                self.assertEqual(turnings_many(other), many)
                self.assertEqual(len(turnings(other)), many)

    def test_forms_carried_far(self):
        for form in NEAR_FORMS:
            home = turnings(form)
            for basis in samples.far_bases(form):
                homeward = samples.plain_back(basis)
                wanted = [samples.plain_product(samples.plain_product(basis, one), homeward) for one in home]
                far = samples.plain_carried(form, basis)
                with samples.in_time(20):
                    self.assertEqual(turnings(far), sorted(wanted))
                    self.assertEqual(turnings_many(far), len(wanted))


if __name__ == "__main__":
    unittest.main()
