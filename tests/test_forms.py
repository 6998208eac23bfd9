"""Points 6, 7 and 8, and point 2 as far as forms go."""

import copy
import random
import unittest
from itertools import product as every

from conekin.errors import NoForm, TooGreat
from conekin.forms import half, is_form, low_row, pairing, worth
from tests import samples
from tests.samples import LEAST_HALF, NOUGHT, ONE, THIRTY, even_table

TWOS = [[2, 0, 0], [0, 2, 0], [0, 0, 2]]


def small_tables():
    """Forms and others: below 0, of either sign, of determinant 0, with noughts on the diagonal."""
    for a, b, c in every((-2, 0, 2, 4), repeat=3):
        for d, e, f in every((-3, -2, -1, 0, 1, 2), repeat=3):
            yield even_table(a, b, c, d, e, f)


def great_tables():
    """Tables of numbers of many figures, up to thirty, their own turned over ones."""
    source = random.Random(7)
    for bound in (10, 10 ** 6, 10 ** 15, THIRTY):
        for step in range(100):
            yield samples.even_table_of(source, bound)


def carried_far(table):
    """The same table by bases that make great numbers of small ones."""
    for basis in samples.bases(9, steps=8) + samples.bases(200, steps=8) + samples.bases(5000, steps=8):
        told = samples.plain_carried(table, basis)
        if max(abs(number) for row in told for number in row) <= THIRTY:
            yield told


class IsForm(unittest.TestCase):
    def test_forms(self):
        told = [TWOS, LEAST_HALF, [[2, 1, 0], [1, 2, 0], [0, 0, 134]], [[2, -1, 0], [-1, 2, -1], [0, -1, 4]]]
        told += [[[THIRTY - 1, 0, 0], [0, 2, 0], [0, 0, THIRTY - 1]], [[2, 1, 0], [1, 2, 1], [0, 1, THIRTY - 1]]]
        for form in told:
            self.assertIs(is_form(form), True)

    def test_any_thing(self):
        for thing in samples.any_things():
            with self.subTest(thing=thing):
                self.assertIs(is_form(thing), False)

    def test_tuples_and_rows_too_few_or_too_many(self):
        for form in (TWOS, LEAST_HALF):
            for thing in samples.wrong_shapes(form):
                with self.subTest(thing=thing):
                    self.assertIs(is_form(thing), False)

    def test_truths_in_the_place_of_numbers(self):
        for i, j in every(range(3), repeat=2):
            for truth in (True, False):
                thing = copy.deepcopy(LEAST_HALF)
                thing[i][j] = thing[j][i] = truth
                self.assertIs(is_form(thing), False)
        for i in range(3):
            thing = copy.deepcopy(LEAST_HALF)
            thing[i][i - 1] = True
            self.assertIs(is_form(thing), False)
        self.assertIs(is_form([[2, False, False], [False, 2, False], [False, False, 2]]), False)

    def test_odd_numbers_on_the_diagonal(self):
        for i in range(3):
            for odd in (1, 3, 5, THIRTY):
                thing = copy.deepcopy(TWOS)
                thing[i][i] = odd
                self.assertIs(is_form(thing), False)
        self.assertIs(is_form(ONE), False)

    def test_unlike_places(self):
        for i, j in every(range(3), repeat=2):
            if i != j:
                thing = [[10, 0, 0], [0, 10, 0], [0, 0, 10]]
                thing[i][j] = 1
                self.assertIs(is_form(thing), False)
                thing[j][i] = -1
                self.assertIs(is_form(thing), False)
                thing[j][i] = 1
                self.assertIs(is_form(thing), True)

    def test_tables_that_give_a_row_nought_or_less(self):
        told = [NOUGHT, even_table(0, 2, 2, 0, 0, 0), even_table(2, 0, 2, 0, 0, 0), even_table(2, 2, 0, 0, 0, 0)]
        told += [even_table(-2, -2, 2, 0, 0, 0), even_table(2, -2, -2, 0, 0, 0), even_table(-2, 2, -2, 0, 0, 0)]
        told += [even_table(-2, -2, -2, 0, 0, 0), even_table(2, 2, 2, 2, 0, 0), even_table(2, 2, 2, -1, -1, -1)]
        told += [even_table(2, 2, 2, 3, 3, 9), even_table(2, 2, 2, 0, 0, 2), even_table(2, 2, 2, 0, 2, 0)]
        for table in told:
            with self.subTest(table=table):
                self.assertIs(is_form(table), False)

    def test_small_and_great_tables(self):
        for tables in (small_tables(), great_tables()):
            for table in tables:
                self.assertIs(is_form(table), samples.gives_above_nought(table))

    def test_forms_of_great_numbers(self):
        for form in (TWOS, LEAST_HALF, even_table(2, 4, 6, 1, -1, 0)):
            for table in carried_far(form):
                self.assertIs(is_form(table), True)
                table[2][2] = -table[2][2]
                self.assertIs(is_form(table), False)


class Worths(unittest.TestCase):
    def test_pairing_by_hand(self):
        table = even_table(2, 4, 6, 1, -1, 3)
        self.assertEqual(pairing(table, [1, 0, 0], [0, 1, 0]), 1)
        self.assertEqual(pairing(table, [1, 2, 3], [-1, 0, 5]), 114)
        self.assertEqual(pairing(table, [0, 0, 0], [1, 2, 3]), 0)

    def test_worth_by_hand(self):
        table = even_table(2, 4, 6, 1, -1, 3)
        self.assertEqual(worth(table, [1, 0, 0]), 1)
        self.assertEqual(worth(table, [1, 2, 3]), 53)
        self.assertEqual(worth(table, [0, 0, 0]), 0)
        self.assertEqual(worth(even_table(-2, 0, 0, 1, 0, 0), [3, 1, 7]), -6)
        self.assertIs(type(worth(table, [1, 2, 3])), int)

    def test_of_all_sorts(self):
        source = random.Random(6)
        for bound in (3, 1000, THIRTY):
            for table in great_tables():
                one, other = [[source.randint(-bound, bound) for k in range(3)] for step in range(2)]
                wanted = samples.plain_pairing(table, one, other)
                self.assertEqual(pairing(table, one, other), wanted)
                self.assertEqual(pairing(table, other, one), wanted)
                self.assertEqual(2 * worth(table, one), samples.plain_pairing(table, one, one))

    def test_greatest_numbers(self):
        table = even_table(THIRTY - 1, THIRTY - 1, THIRTY - 1, -THIRTY, THIRTY, -THIRTY)
        row = [THIRTY, -THIRTY, THIRTY]
        self.assertEqual(worth(table, row), (3 * (THIRTY - 1) + 6 * THIRTY) * THIRTY ** 2 // 2)


class LowRow(unittest.TestCase):
    def low(self, table):
        """That the row told of a table that is no form is a low one."""
        row = low_row(table)
        self.assertIs(type(row), list)
        self.assertEqual([type(number) for number in row], [int] * 3)
        self.assertNotEqual(row, [0, 0, 0])
        self.assertLessEqual(samples.plain_pairing(table, row, row), 0)

    def right(self, table):
        if samples.gives_above_nought(table):
            self.assertIsNone(low_row(table))
        else:
            self.low(table)

    def test_forms_have_none(self):
        for form in (TWOS, LEAST_HALF, even_table(2, 4, 6, 1, -1, 0)):
            self.assertIsNone(low_row(form))
            for table in carried_far(form):
                self.assertIsNone(low_row(table))

    def test_small_tables(self):
        for table in small_tables():
            self.right(table)

    def test_great_tables(self):
        for table in great_tables():
            self.right(table)

    def test_noughts_on_the_diagonal(self):
        for a, b, c in every((0, 2), repeat=3):
            if a * b * c == 0:
                for d, e, f in every((-THIRTY, -1, 0, 1, THIRTY), repeat=3):
                    self.low(even_table(a, b, c, d, e, f))

    def test_determinant_nought(self):
        flat = [NOUGHT, even_table(2, 2, 0, 0, 0, 0), even_table(2, 2, 2, -1, -1, -1), even_table(2, 2, 8, 0, 4, 0)]
        flat += [even_table(2, 8, 18, 4, 6, 12), even_table(2, 4, 4, 1, 1, 4)]
        for table in flat:
            self.assertEqual(samples.plain_determinant(table), 0)
            self.low(table)
            for far in carried_far(table):
                self.low(far)

    def test_below_nought_and_of_either_sign(self):
        for signs in every((-2, 2), repeat=3):
            if min(signs) < 0:
                table = even_table(*signs, 0, 0, 0)
                self.low(table)
                for far in carried_far(table):
                    self.low(far)

    def test_the_low_row_lies_far_off(self):
        many = 10 ** 14 + 3
        flat = even_table(2, 2 * many * many, 2 * many * many - 2, 2 * many, 0, 0)
        self.low(flat)
        thin = samples.plain_carried(even_table(2, 2, -2, 0, 0, 0), [[1, 0, 0], [0, 1, 0], [many, many, 1]])
        self.low(thin)
        self.assertIsNone(low_row(samples.plain_carried(TWOS, [[1, 0, 0], [0, 1, 0], [many, many, 1]])))


class Half(unittest.TestCase):
    def test_halves(self):
        self.assertEqual(half(LEAST_HALF), 2)
        self.assertEqual(half(TWOS), 4)
        self.assertEqual(half(even_table(2, 2, 2, 1, 0, 0)), 3)
        self.assertEqual(half(even_table(2, 2, 100, 0, 0, 0)), 200)
        self.assertEqual(half(even_table(2, 2, 132, 1, 0, 0)), 198)
        self.assertIs(type(half(TWOS)), int)

    def test_too_great(self):
        for form in (even_table(2, 2, 134, 1, 0, 0), even_table(2, 2, 102, 0, 0, 0), even_table(2, 2, 1000, 1, 0, 0)):
            with self.assertRaises(TooGreat):
                half(form)
        great = THIRTY - 1
        with self.assertRaises(TooGreat):
            half(even_table(great, great, great, 1, 1, 1))

    def test_forms_of_great_numbers(self):
        for form, wanted in ((LEAST_HALF, 2), (TWOS, 4), (even_table(2, 2, 100, 0, 0, 0), 200)):
            for far in carried_far(form):
                self.assertEqual(half(far), wanted)
        for far in carried_far(even_table(2, 2, 134, 1, 0, 0)):
            with self.assertRaises(TooGreat):
                half(far)

    def test_no_form_of_any_thing(self):
        for thing in samples.any_things() + samples.wrong_shapes(TWOS) + [NOUGHT, ONE]:
            with self.subTest(thing=thing):
                with self.assertRaises(NoForm):
                    half(thing)

    def test_no_form_ahead_of_too_great(self):
        told = [even_table(-20, -20, 20, 0, 0, 0), even_table(1001, 2, 2, 0, 0, 0), even_table(20, -20, -20, 0, 0, 0)]
        told += [[[1000, 1, 0], [0, 1000, 0], [0, 0, 1000]], even_table(THIRTY, THIRTY, THIRTY, 0, 0, 0)]
        told += samples.wrong_shapes(even_table(1000, 1000, 1000, 0, 0, 0))
        told += [[[1000, False, False], [False, 1000, False], [False, False, 1000]]]
        for thing in told:
            with self.subTest(thing=thing):
                with self.assertRaises(NoForm):
                    half(thing)


class OwnLists(unittest.TestCase):
    """Point 2: nothing handed in is changed, and what is told is the asker's own."""

    def lows(self):
        told = [NOUGHT, even_table(-2, 2, 2, 0, 0, 0), even_table(2, 0, 2, 0, 0, 0), even_table(2, 2, 2, -1, -1, -1)]
        return told + [even_table(2, 2, 0, 0, 0, 0), even_table(2, 2, -2, 0, 0, 0), even_table(2, 2, 2, 5, 0, 0)]

    def test_low_row_is_new_each_time(self):
        for start in self.lows():
            table = copy.deepcopy(start)
            told = low_row(table)
            kept = list(told)
            self.assertFalse(any(told is row for row in table))
            told[0] += 5
            told.append(1)
            self.assertEqual(table, start)
            again = low_row(table)
            self.assertEqual(again, kept)
            self.assertIsNot(again, told)
            table[1][1] = 70
            table[0] = [7, 7, 7]
            self.assertEqual(again, kept)
            self.assertEqual(low_row(copy.deepcopy(start)), kept)

    def test_handed_in_stays(self):
        things = samples.any_things() + samples.wrong_shapes(TWOS) + self.lows() + [LEAST_HALF]
        for thing in things:
            kept = copy.deepcopy(thing)
            is_form(thing)
            self.assertEqual(repr(thing), repr(kept))
            try:
                half(thing)
            except NoForm:
                pass
            self.assertEqual(repr(thing), repr(kept))
        form, one, other = copy.deepcopy(LEAST_HALF), [1, 2, 3], [4, 5, 6]
        told = pairing(form, one, other), worth(form, one), low_row(form)
        self.assertEqual((form, one, other), (LEAST_HALF, [1, 2, 3], [4, 5, 6]))
        self.assertEqual(told, (pairing(form, one, other), worth(form, one), None))

    def test_the_same_list_changed_between_two_calls(self):
        form = copy.deepcopy(TWOS)
        self.assertEqual((is_form(form), half(form), worth(form, [1, 1, 1]), low_row(form)), (True, 4, 3, None))
        form[2][2] = 4
        self.assertEqual((is_form(form), half(form), worth(form, [1, 1, 1]), low_row(form)), (True, 8, 4, None))
        form[2][2] = 400
        with self.assertRaises(TooGreat):
            half(form)
        form[0][1] = 1
        self.assertIs(is_form(form), False)
        with self.assertRaises(NoForm):
            half(form)
        form[0][1], form[2][2] = 0, -2
        self.assertIsNotNone(low_row(form))

    def test_one_row_standing_three_times(self):
        row = [2, 2, 2]
        table = [row, row, row]
        self.assertIs(is_form(table), False)
        told = low_row(table)
        self.assertLessEqual(worth(table, told), 0)
        self.assertNotEqual(told, [0, 0, 0])
        self.assertEqual(row, [2, 2, 2])


if __name__ == "__main__":
    unittest.main()
