"""Points 9 and 10: rows of one worth, how many there are, and the least worth."""

import unittest

from conekin.errors import NoForm, NoWorth, TooGreat
from conekin.rows import counts_to, how_many, least_worth, root, rows_of
from tests import samples
from tests.samples import LEAST_HALF, NEAR_FORMS, THIRTY, even_table

SQUARES = even_table(2, 2, 2, 0, 0, 0)
TOO_GREAT = even_table(2, 2, 134, 1, 0, 0)
NO_FORM = even_table(2, 2, 2, -1, -1, -1)

NO_NUMBERS = [True, False, None, "", "1", "0", [], [1], [[0, 0, 0]], (), (1,), (0, 0)]
NO_WORTHS = NO_NUMBERS + samples.any_things()[6:] + [-1, -2, -600, -THIRTY, 601, 602, 1000, THIRTY]


class Root(unittest.TestCase):
    def test_root(self):
        for number in list(range(2000)) + [THIRTY, 10 ** 30, (10 ** 15 + 1) ** 2 - 1, (10 ** 15 + 1) ** 2]:
            told = root(number)
            self.assertTrue(told * told <= number < (told + 1) ** 2, number)


class Rows(unittest.TestCase):
    def test_by_hand(self):
        self.assertEqual(rows_of(SQUARES, 0), [[0, 0, 0]])
        wanted = [[-1, 0, 0], [0, -1, 0], [0, 0, -1], [0, 0, 1], [0, 1, 0], [1, 0, 0]]
        self.assertEqual(rows_of(SQUARES, 1), wanted)
        self.assertEqual(rows_of(SQUARES, 7), [])
        self.assertEqual(counts_to(SQUARES, 9), [1, 6, 12, 8, 6, 24, 24, 0, 12, 30])
        self.assertEqual(how_many(LEAST_HALF, 1), 12)
        self.assertEqual(rows_of([[2, 11, 0], [11, 62, 0], [0, 0, 6]], 1),
                         [[-6, 1, 0], [-5, 1, 0], [-1, 0, 0], [1, 0, 0], [5, -1, 0], [6, -1, 0]])

    def test_against_going_through_all_rows(self):
        for form in NEAR_FORMS:
            with self.subTest(form=form):
                wanted = samples.plain_rows(form, 60)
                for n in range(61):
                    self.assertEqual(rows_of(form, n), sorted(wanted[n]))
                    self.assertEqual(how_many(form, n), len(wanted[n]))
                for n in (0, 1, 2, 17, 59, 60):
                    self.assertEqual(counts_to(form, n), [len(rows) for rows in wanted[:n + 1]])

    def test_greatest_worths_against_going_through_all_rows(self):
        for form in (LEAST_HALF, SQUARES, even_table(4, 6, 8, -1, 1, 2), even_table(2, 2, 132, 1, 0, 0)):
            with self.subTest(form=form):
                wanted = samples.plain_rows(form, 600)
                for n in (61, 100, 343, 350, 575, 598, 599, 600):
                    self.assertEqual(rows_of(form, n), sorted(wanted[n]))
                    self.assertEqual(how_many(form, n), len(wanted[n]))

    def test_many_small_forms(self):
        for half in range(2, 201, 11):
            for form in list(samples.small_forms(half))[:6]:
                wanted = samples.plain_rows(form, 12)
                self.assertEqual([rows_of(form, n) for n in range(13)], [sorted(rows) for rows in wanted])
                self.assertEqual(counts_to(form, 12), [len(rows) for rows in wanted])

    def test_a_row_and_its_contrary(self):
        for form in NEAR_FORMS:
            for n in (1, 6, 60, 600):
                told = rows_of(form, n)
                self.assertEqual(sorted([-x for x in row] for row in told), told)

    def test_kinds_of_values(self):
        for row in rows_of(SQUARES, 5) + [counts_to(SQUARES, 5)]:
            self.assertIs(type(row), list)
            self.assertEqual({type(number) for number in row}, {int})
        self.assertEqual(type(how_many(SQUARES, 5)), int)
        self.assertEqual(type(least_worth(SQUARES)), int)


class GreatNumbers(unittest.TestCase):
    def test_rows_of_forms_carried_far(self):
        for form in NEAR_FORMS:
            wanted = samples.plain_rows(form, 60)
            for basis in samples.far_bases(form):
                far, homeward = samples.plain_carried(form, basis), samples.plain_back(basis)
                with self.subTest(far=far), samples.in_time(20):
                    self.assertEqual(counts_to(far, 60), [len(rows) for rows in wanted])
                    for n in (0, form[0][0] // 2, form[2][2] // 2, 60):
                        if n <= 60:
                            told = sorted(samples.plain_by_basis(row, homeward) for row in wanted[n])
                            self.assertEqual(rows_of(far, n), told)
                            self.assertEqual(how_many(far, n), len(told))

    def test_greatest_worth_of_forms_carried_far(self):
        for form in (LEAST_HALF, even_table(4, 6, 8, -1, 1, 2)):
            wanted = samples.plain_rows(form, 600)[600]
            for basis in samples.far_bases(form):
                far, homeward = samples.plain_carried(form, basis), samples.plain_back(basis)
                with samples.in_time(20):
                    told = sorted(samples.plain_by_basis(row, homeward) for row in wanted)
                    self.assertEqual(rows_of(far, 600), told)
                    self.assertEqual(how_many(far, 600), len(told))


class LeastWorth(unittest.TestCase):
    def test_by_hand(self):
        self.assertEqual(least_worth(SQUARES), 1)
        self.assertEqual(least_worth(even_table(4, 6, 8, -1, 1, 2)), 2)
        self.assertEqual(least_worth(even_table(8, 8, 8, 4, 3, 4)), 4)
        self.assertEqual(least_worth([[20, 9, 0], [9, 6, 0], [0, 0, 2]]), 1)

    def test_of_forms_and_of_the_same_carried_far(self):
        for form in NEAR_FORMS + [even_table(6, 6, 6, 1, 1, 1), even_table(6, 6, 8, 3, 2, 1)]:
            told = samples.plain_rows(form, form[0][0] // 2)
            wanted = min(worth for worth in range(1, len(told)) if told[worth])
            self.assertEqual(least_worth(form), wanted)
            for basis in samples.bases(1) + samples.far_bases(form):
                with samples.in_time(20):
                    self.assertEqual(least_worth(samples.plain_carried(form, basis)), wanted)


class Refused(unittest.TestCase):
    def test_no_worth_of_any_thing(self):
        for call in (rows_of, how_many, counts_to):
            for thing in NO_WORTHS:
                with self.subTest(call=call.__name__, thing=thing), self.assertRaises(NoWorth):
                    call(SQUARES, thing)

    def test_the_bounds(self):
        for call in (rows_of, how_many):
            call(SQUARES, 0)
            call(SQUARES, 600)
            for n in (-1, 601):
                with self.assertRaises(NoWorth):
                    call(SQUARES, n)
        self.assertEqual(len(counts_to(SQUARES, 60)), 61)
        self.assertEqual(counts_to(SQUARES, 0), [1])
        for n in (-1, 61, 600):
            with self.assertRaises(NoWorth):
                counts_to(SQUARES, n)

    def test_the_order_of_refusals(self):
        for call in (rows_of, how_many, counts_to):
            for thing in [0, 1, 60] + NO_WORTHS:
                with self.assertRaises(TooGreat):
                    call(TOO_GREAT, thing)
                for no_form in (NO_FORM, None, True, [], TOO_GREAT[:2], tuple(TOO_GREAT)):
                    with self.assertRaises(NoForm):
                        call(no_form, thing)


if __name__ == "__main__":
    unittest.main()
