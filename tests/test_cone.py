"""Points 15, 16 and 17: lines on the cone, the line of a row, and lifts."""

import random
import unittest
from itertools import product as every

from conekin.cone import lift, line_of, lines
from conekin.errors import NoForm, NoLine, NoPrime, TooGreat
from tests import samples
from tests.samples import NEAR_FORMS, PRIMES, THIRTY, even_table, plain_lift, plain_lines, primes_of

SQUARES = even_table(2, 2, 2, 0, 0, 0)
TOO_GREAT = even_table(2, 2, 134, 1, 0, 0)
NO_FORM = even_table(2, 2, 2, -1, -1, -1)
NO_PRIMES = samples.no_primes()
NO_LINES = samples.any_things() + samples.wrong_shapes(SQUARES) + [SQUARES, [0, 0], [0, 0, 0, 0], "000"]


def cases():
    """Near forms and the same carried far, each with its primes."""
    for form in NEAR_FORMS:
        for basis in [samples.ONE] + samples.bases(2)[:2] + samples.far_bases(form)[::20] + samples.grown_bases(form):
            far = samples.plain_carried(form, basis)
            for p in primes_of(form):
                yield far, p


class Lines(unittest.TestCase):
    def test_by_hand(self):
        self.assertEqual(lines(SQUARES, 3), [[1, 1, 1], [1, 1, 2], [1, 2, 1], [1, 2, 2]])
        self.assertEqual(lines(SQUARES, 5), [[0, 1, 2], [0, 1, 3], [1, 0, 2], [1, 0, 3], [1, 2, 0], [1, 3, 0]])

    def test_by_going_through_all_rows(self):
        seen = set()
        for form, p in cases():
            told = lines(form, p)
            self.assertEqual(len(told), p + 1)
            self.assertEqual(told, plain_lines(form, p))
            self.assertEqual({type(number) for row in told for number in row}, {int})
            seen.add(p)
        self.assertEqual(seen, set(PRIMES))

    def test_lines_that_lead_with_noughts(self):
        told = [(form, p, line) for form, p in cases() for line in lines(form, p)]
        self.assertTrue(any(line == [0, 0, 1] for form, p, line in told))
        self.assertTrue(any(line[:2] == [0, 1] for form, p, line in told))

    def test_of_many_halves(self):
        for half in range(2, 201):
            form = next(samples.small_forms(half))
            for p in PRIMES:
                if half % p:
                    self.assertEqual(len(lines(form, p)), p + 1)
                    self.assertEqual(lines(form, p), sorted(lines(form, p)))
                else:
                    with self.assertRaises(NoPrime):
                        lines(form, p)


class LineOf(unittest.TestCase):
    def test_by_hand(self):
        self.assertEqual(line_of(SQUARES, 5, [0, 1, 2]), [0, 1, 2])
        self.assertEqual(line_of(SQUARES, 5, [0, 3, 1]), [0, 1, 2])
        self.assertEqual(line_of(SQUARES, 5, [-5, 8, -4]), [0, 1, 2])
        self.assertIsNone(line_of(SQUARES, 5, [1, 1, 1]))
        self.assertIsNone(line_of(SQUARES, 5, [0, 0, 0]))
        self.assertIsNone(line_of(SQUARES, 5, [5, -10, 25]))

    def test_each_row_of_rests(self):
        for form, p in cases():
            if p <= 7:
                wanted = {}
                for line in plain_lines(form, p):
                    for times in range(1, p):
                        wanted[tuple(times * number % p for number in line)] = line
                for row in every(range(p), repeat=3):
                    self.assertEqual(line_of(form, p, list(row)), wanted.get(row))

    def test_rows_of_great_numbers(self):
        source = random.Random(16)
        for form, p in cases():
            for line in plain_lines(form, p):
                times, most = source.randint(1, p - 1), (THIRTY - p * p) // p
                row = [times * number + p * source.randint(-most, most) for number in line]
                self.assertEqual(line_of(form, p, row), line)
                self.assertEqual(line_of(form, p, [-number for number in row]), line)
            row = [p * source.randint(-most, most) for k in range(3)]
            self.assertIsNone(line_of(form, p, row))
            row = [source.randint(-THIRTY, THIRTY) for k in range(3)]
            told = line_of(form, p, row)
            self.assertEqual(told is None, samples.plain_worth(form, row) % p != 0 or not any(x % p for x in row))


class Lift(unittest.TestCase):
    def test_by_hand(self):
        self.assertEqual(lift(SQUARES, 3, [1, 1, 1]), [1, 1, 4])
        self.assertEqual(lift(SQUARES, 5, [0, 1, 2]), [0, 1, 7])
        self.assertEqual(lift(SQUARES, 5, [1, 2, 0]), [1, 7, 0])

    def test_by_going_through_all_rows(self):
        for form, p in cases():
            for line in plain_lines(form, p):
                with self.subTest(form=form, p=p, line=line):
                    self.assertEqual(lift(form, p, line), plain_lift(form, p, line))

    def test_lifts_at_each_place(self):
        moved = set()
        for form, p in cases():
            for line in lines(form, p):
                told = lift(form, p, line)
                moved.update(at for at in range(3) if told[at] != line[at])
        self.assertEqual(moved, {0, 1, 2})

    def test_no_line_of_any_thing(self):
        for p in (3, 5, 7, 11, 13):
            told = lines(SQUARES, p)
            for thing in NO_LINES:
                if thing not in told:
                    with self.subTest(thing=thing), self.assertRaises(NoLine):
                        lift(SQUARES, p, thing)

    def test_no_line_of_rows(self):
        for p in (3, 5):
            told = plain_lines(SQUARES, p)
            for row in every(range(-2, p + 3), repeat=3):
                if list(row) not in told:
                    with self.assertRaises(NoLine):
                        lift(SQUARES, p, list(row))
            for line in told:
                wrong = [tuple(line), [line], line + [0], line[:2], [number + p for number in line]]
                wrong += [[2 * number % p for number in line], [line[0] - p] + line[1:], str(line)]
                for thing in wrong:
                    with self.assertRaises(NoLine):
                        lift(SQUARES, p, thing)

    def test_no_line_of_truths(self):
        form = even_table(2, 2, 2, 1, 0, 0)
        self.assertIn([1, 1, 0], lines(even_table(2, 4, 4, 0, 1, 1), 3))
        for p in (5, 7, 11, 13):
            for line in lines(form, p):
                for at in range(3):
                    if line[at] in (0, 1):
                        thing = list(line)
                        thing[at] = bool(line[at])
                        with self.assertRaises(NoLine):
                            lift(form, p, thing)


class Refused(unittest.TestCase):
    def calls(self, form, p, thing):
        return [lambda: lines(form, p), lambda: line_of(form, p, [0, 1, 2]), lambda: lift(form, p, thing)]

    def test_no_prime_of_any_thing(self):
        # 2 divides the half determinant of the one, but not that of the other, so it isn't refused for dividing.
        for form in (SQUARES, even_table(2, 2, 2, 1, 0, 0)):
            for thing in NO_PRIMES:
                for line in ([0, 1, 2], [0, 0, 0], None):
                    for call in self.calls(form, thing, line):
                        with self.subTest(thing=thing), self.assertRaises(NoPrime):
                            call()

    def test_primes_that_divide_the_half(self):
        for form in NEAR_FORMS:
            for p in PRIMES:
                for call in self.calls(form, p, None)[:2] if p in primes_of(form) else []:
                    call()
                for call in self.calls(form, p, None) if p not in primes_of(form) else []:
                    with self.assertRaises(NoPrime):
                        call()

    def test_the_order_of_refusals(self):
        for p in [3, 67] + NO_PRIMES:
            for line in ([0, 1, 2], [0, 0, 0], None, True, "line"):
                for call in self.calls(TOO_GREAT, p, line):
                    with self.assertRaises(TooGreat):
                        call()
                for no_form in (NO_FORM, None, True, [], TOO_GREAT[:2], tuple(TOO_GREAT)):
                    for call in self.calls(no_form, p, line):
                        with self.assertRaises(NoForm):
                            call()


if __name__ == "__main__":
    unittest.main()
