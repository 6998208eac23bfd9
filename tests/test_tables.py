"""Points 4 and 5, and point 2 as far as tables go."""

import copy
import unittest

from conekin.errors import NoBasis
from conekin.tables import back, carried, cover, determinant, is_basis, is_row, is_table, is_whole, product, rest
from conekin.tables import turned_over
from tests import samples
from tests.samples import NOUGHT, ONE, THIRTY


def diagonal(number):
    return [[number if i == j else 0 for j in range(3)] for i in range(3)]


class Kinds(unittest.TestCase):
    """Point 2: what a whole number, a row and a table are."""

    def test_whole_numbers(self):
        for thing in (0, 1, -1, THIRTY, -THIRTY):
            self.assertIs(is_whole(thing), True)
        for thing in (True, False, None, "", "1", [], [1], (), (1,)):
            self.assertIs(is_whole(thing), False)

    def test_rows(self):
        for thing in ([0, 0, 0], [1, -2, THIRTY]):
            self.assertIs(is_row(thing), True)
        for thing in ((0, 0, 0), [], [0, 0], [0] * 4, [0, 0, True], [False, 0, 0], [0, None, 0], "abc", ["1"] * 3, 3):
            self.assertIs(is_row(thing), False)

    def test_tables(self):
        for table in samples.tables(1):
            self.assertIs(is_table(table), True)
        for thing in samples.any_things() + samples.wrong_shapes(ONE) + [[[0, 0, True]] * 3]:
            self.assertIs(is_table(thing), False)


class Multiplied(unittest.TestCase):
    def test_product_by_hand(self):
        one = [[1, 2, 3], [4, 5, 6], [7, 8, 10]]
        other = [[0, 1, 0], [2, 0, -1], [0, 0, 5]]
        self.assertEqual(product(one, other), [[4, 1, 13], [10, 4, 25], [16, 7, 42]])
        self.assertEqual(product(other, one), [[4, 5, 6], [-5, -4, -4], [35, 40, 50]])

    def test_product_of_all_sorts(self):
        told = samples.tables()
        for one, other in zip(told, reversed(told)):
            self.assertEqual(product(one, other), samples.plain_product(one, other))

    def test_product_with_one_and_nought(self):
        for table in samples.tables(5):
            self.assertEqual(product(table, ONE), table)
            self.assertEqual(product(ONE, table), table)
            self.assertEqual(product(table, NOUGHT), NOUGHT)

    def test_turned_over(self):
        self.assertEqual(turned_over([[1, 2, 3], [4, 5, 6], [7, 8, 9]]), [[1, 4, 7], [2, 5, 8], [3, 6, 9]])
        for table in samples.tables():
            self.assertEqual(turned_over(table), samples.plain_turned(table))

    def test_carried_by_hand(self):
        table = [[2, 1, 0], [1, 4, 0], [0, 0, 6]]
        self.assertEqual(carried(table, [[1, 0, 0], [3, 1, 0], [0, 0, -1]]), [[2, 7, 0], [7, 28, 0], [0, 0, 6]])

    def test_carried_is_t_times_it_times_t_turned_over(self):
        told = samples.tables()
        for table, by in zip(told, reversed(told)):
            self.assertEqual(carried(table, by), samples.plain_carried(table, by))

    def test_carried_by_one_and_by_two_after_another(self):
        told = samples.tables(5)
        for table, by in zip(told, reversed(told)):
            self.assertEqual(carried(table, ONE), table)
            self.assertEqual(carried(carried(table, by), table), carried(table, product(table, by)))


class Determinants(unittest.TestCase):
    def test_determinant_by_hand(self):
        self.assertEqual(determinant([[1, 2, 3], [4, 5, 6], [7, 8, 10]]), -3)
        self.assertEqual(determinant([[0, 1, 0], [0, 0, 1], [1, 0, 0]]), 1)
        self.assertEqual(determinant([[0, 1, 0], [1, 0, 0], [0, 0, 1]]), -1)
        self.assertEqual(determinant([[1, 2, 3], [4, 5, 6], [7, 8, 9]]), 0)
        self.assertEqual(determinant(NOUGHT), 0)
        self.assertEqual(determinant(diagonal(THIRTY)), THIRTY ** 3)

    def test_determinant_of_all_sorts(self):
        for table in samples.tables():
            self.assertEqual(determinant(table), samples.plain_determinant(table))

    def test_cover_by_hand(self):
        self.assertEqual(cover([[1, 2, 3], [0, 4, 5], [1, 0, 6]]), [[24, -12, -2], [5, 3, -5], [-4, 2, 4]])

    def test_cover_makes_the_determinant_from_either_side(self):
        for table in samples.tables():
            wanted = diagonal(samples.plain_determinant(table))
            self.assertEqual(samples.plain_product(cover(table), table), wanted)
            self.assertEqual(samples.plain_product(table, cover(table)), wanted)

    def test_cover_where_the_determinant_is_nought(self):
        self.assertEqual(cover([[1, 2, 3], [4, 5, 6], [7, 8, 9]]), [[-3, 6, -3], [6, -12, 6], [-3, 6, -3]])
        self.assertEqual(cover([[1, 0, 0], [0, 1, 0], [0, 0, 0]]), [[0, 0, 0], [0, 0, 0], [0, 0, 1]])
        self.assertEqual(cover([[0, 0, 0], [2, 3, 0], [5, 7, 0]]), [[0, 0, 0], [0, 0, 0], [-1, 0, 0]])
        self.assertEqual(cover(NOUGHT), NOUGHT)


class Bases(unittest.TestCase):
    def bases(self):
        return samples.bases(1) + samples.bases(9) + samples.bases(100) + [ONE, diagonal(-1)]

    def test_bases_of_either_sign(self):
        signs = set()
        for basis in self.bases():
            signs.add(determinant(basis))
            self.assertIs(is_basis(basis), True)
        self.assertEqual(signs, {1, -1})

    def test_others_are_none(self):
        others = [NOUGHT, diagonal(2), diagonal(THIRTY), [[2, 0, 0], [0, 1, 0], [0, 0, 1]]]
        others += [[[-2, 0, 0], [0, 1, 0], [0, 0, 1]], [[1, 2, 3], [4, 5, 6], [7, 8, 9]]]
        others += [[[1, 2, 3], [4, 5, 6], [7, 8, 10]], [[THIRTY, THIRTY, 0], [THIRTY, THIRTY, 1], [0, 0, 1]]]
        others += [table for table in samples.tables() if samples.plain_determinant(table) not in (1, -1)]
        for table in others:
            self.assertIs(is_basis(table), False)
            with self.assertRaises(NoBasis):
                back(table)

    def test_back_by_hand(self):
        self.assertEqual(back([[0, 1, 0], [0, 0, 1], [1, 0, 0]]), [[0, 0, 1], [1, 0, 0], [0, 1, 0]])
        self.assertEqual(back([[1, 5, 0], [0, -1, 0], [0, 0, 1]]), [[1, 5, 0], [0, -1, 0], [0, 0, 1]])
        self.assertEqual(back(diagonal(-1)), diagonal(-1))
        self.assertEqual(back([[1, THIRTY, 0], [0, 1, 0], [0, 0, 1]]), [[1, -THIRTY, 0], [0, 1, 0], [0, 0, 1]])

    def test_back_makes_one_from_either_side(self):
        for basis in self.bases():
            self.assertEqual(samples.plain_product(back(basis), basis), ONE)
            self.assertEqual(samples.plain_product(basis, back(basis)), ONE)

    def test_back_refused_changes_nothing(self):
        table = [[1, 2, 3], [4, 5, 6], [7, 8, 10]]
        with self.assertRaises(NoBasis):
            back(table)
        self.assertEqual(table, [[1, 2, 3], [4, 5, 6], [7, 8, 10]])


class Rests(unittest.TestCase):
    def test_rest_by_hand(self):
        table = [[0, 1, -1], [6, 7, 8], [-6, -7, -8]]
        self.assertEqual(rest(table, 7), [[0, 1, 6], [6, 0, 1], [1, 0, 6]])
        self.assertEqual(rest(table, 1), NOUGHT)

    def test_rest_by_the_greatest(self):
        table = [[999, 1000, 1001], [-999, -1000, -1001], [THIRTY, -THIRTY, -1]]
        self.assertEqual(rest(table, 1000), [[999, 0, 1], [1, 0, 999], [999, 1, 999]])

    def test_rests_lie_from_nought_to_below_and_differ_by_multiples(self):
        for table in samples.tables(8):
            for m in (1, 2, 3, 9, 10, 169, 999, 1000):
                told = rest(table, m)
                for row, told_row in zip(table, told):
                    self.assertEqual(len(told_row), 3)
                    for number, told_number in zip(row, told_row):
                        self.assertTrue(0 <= told_number < m)
                        self.assertEqual((number - told_number) // m * m, number - told_number)


CALLS = [
    ("product", product, 2), ("carried", carried, 2), ("turned_over", turned_over, 1), ("cover", cover, 1),
    ("back", back, 1), ("rest", lambda table: rest(table, 1000), 1),
]


class OwnLists(unittest.TestCase):
    """Point 2: nothing handed in is changed, and what is told is the asker's own."""

    def own(self, told, handed):
        """That told is a table of lists found nowhere else."""
        lists = [told] + told
        self.assertEqual(len({id(thing) for thing in lists}), 4)
        for table in handed:
            for thing in [table] + table:
                self.assertFalse(any(thing is one for one in lists))

    def starts(self):
        return [ONE, [[1, 2, 3], [0, 1, 4], [0, 0, 1]], [[0, 1, 0], [1, 0, 0], [0, 0, 1]]]

    def test_told_is_new_and_handed_in_stays(self):
        for name, call, many in CALLS:
            for start in self.starts():
                with self.subTest(name=name, start=start):
                    handed = [copy.deepcopy(start) for k in range(many)]
                    told = call(*handed)
                    self.assertEqual(handed, [start] * many)
                    self.own(told, handed)

    def test_the_same_table_handed_in_twice(self):
        for call in (product, carried):
            table = copy.deepcopy(ONE)
            self.own(call(table, table), [table])
            self.assertEqual(table, ONE)

    def test_one_row_standing_three_times(self):
        for name, call, many in CALLS:
            if name != "back":
                row = [0, 0, 0]
                table = [row, row, row]
                self.own(call(*[table] * many), [table])
                self.assertEqual(row, [0, 0, 0])

    def test_changed_behind_the_call(self):
        for name, call, many in CALLS:
            for start in self.starts():
                with self.subTest(name=name, start=start):
                    handed = [copy.deepcopy(start) for k in range(many)]
                    told = call(*handed)
                    kept = copy.deepcopy(told)
                    for table in handed:
                        table[0][0] = 77
                        table[2] = [5, 5, 5]
                    self.assertEqual(told, kept)
                    self.assertEqual(call(*[copy.deepcopy(start) for k in range(many)]), kept)

    def test_told_changed_changes_nothing_else(self):
        for name, call, many in CALLS:
            for start in self.starts():
                with self.subTest(name=name, start=start):
                    handed = [copy.deepcopy(start) for k in range(many)]
                    told = call(*handed)
                    kept = copy.deepcopy(told)
                    told[0][0] += 1
                    told[1].append(9)
                    told.pop()
                    self.assertEqual(handed, [start] * many)
                    self.assertEqual(call(*handed), kept)

    def test_the_same_list_changed_between_two_calls(self):
        table = copy.deepcopy(ONE)
        self.assertEqual((determinant(table), is_basis(table)), (1, True))
        self.assertEqual(back(table), ONE)
        table[1][1] = 5
        self.assertEqual((determinant(table), is_basis(table)), (5, False))
        with self.assertRaises(NoBasis):
            back(table)
        self.assertEqual(table, [[1, 0, 0], [0, 5, 0], [0, 0, 1]])

    def test_told_handed_in_again(self):
        table = [[1, 2, 3], [0, 1, 4], [0, 0, 1]]
        told = back(table)
        again = back(told)
        self.assertEqual(again, table)
        again[0][0] = 50
        self.assertEqual(back(told), table)
        self.assertEqual(table, [[1, 2, 3], [0, 1, 4], [0, 0, 1]])


if __name__ == "__main__":
    unittest.main()
