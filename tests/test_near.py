"""Near forms, on which points 9 to 14 rest."""

import unittest

from conekin.near import near
from tests import samples
from tests.samples import NEAR_FORMS


class Near(unittest.TestCase):
    def right(self, form, diagonal):
        """That the told form is carried from the one handed in, and has the least diagonal of its kind."""
        with samples.in_time(20):
            told, basis = near(form)
        self.assertEqual(samples.plain_carried(form, basis), told)
        self.assertIn(samples.plain_determinant(basis), (1, -1))
        self.assertEqual([told[i][i] for i in range(3)], diagonal)

    def test_of_near_forms_and_of_the_same_carried_far(self):
        for form in NEAR_FORMS:
            diagonal = samples.plain_least(form)[:3]
            self.right(form, diagonal)
            for basis in samples.bases(1) + samples.bases(3) + samples.far_bases(form):
                self.right(samples.plain_carried(form, basis), diagonal)

    def test_of_small_forms(self):
        for half in range(2, 31):
            for form in samples.small_forms(half):
                self.right(form, samples.plain_least(form)[:3])


if __name__ == "__main__":
    unittest.main()
