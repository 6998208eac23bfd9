"""Points 18, 19 and 20: the form beside a form, steps, and the way back."""

import copy
import random
import unittest

from conekin.beside import beside, is_step, way_back
from conekin.errors import NoForm, NoLine, NoPrime, NoStep, TooGreat
from conekin.least import least
from tests import samples
from tests.samples import LEAST_HALF, NEAR_FORMS, NOUGHT, ONE, PRIMES, THIRTY, even_table, plain_determinant
from tests.samples import plain_is_form, plain_is_step, plain_lift, plain_lines, plain_made, plain_product, primes_of

SQUARES = even_table(2, 2, 2, 0, 0, 0)
TOO_GREAT = even_table(2, 2, 134, 1, 0, 0)
NO_FORM = even_table(2, 2, 2, -1, -1, -1)
NO_LINES = samples.any_things() + [SQUARES, [0, 0], [0, 0, 0, 0], "000", (0, 1, 2), [1, 1, 1], [0, 2, 4], [0, 1, 7]]


def cases(many=2):
    """Near forms and the same carried far, each with its primes."""
    for form in NEAR_FORMS:
        for basis in [ONE] + samples.far_bases(form)[-many:]:
            far = samples.plain_carried(form, basis)
            for p in primes_of(form):
                yield far, p


def all_lines(many=2, most=13):
    for form, p in cases(many):
        if p <= most:
            for line in plain_lines(form, p):
                yield form, p, line


def other_steps(step, bases):
    """Other steps of the same line: the rows exchanged, turned, added to one another."""
    a, b, c = step
    told = [[b, a, c], [c, b, a], [b, c, a], [[-x for x in a], b, c], [a, b, [-x for x in c]]]
    told += [[a, [x + y for x, y in zip(a, b)], c], [a, b, [x - 5 * y for x, y in zip(c, a)]]]
    return told + [plain_product(basis, step) for basis in bases]


def units(at):
    return [int(place == at) for place in range(3)]


class Beside(unittest.TestCase):
    def right(self, form, p, line):
        """That what is told is as point 18 says."""
        with samples.in_time(20):
            told = beside(form, p, line)
        self.assertIs(type(told), tuple)
        made, step = told
        for table in told:
            self.assertEqual([type(table)] + [type(row) for row in table], [list] * 4)
            self.assertEqual([type(number) for row in table for number in row], [int] * 9)
        lifted = plain_lift(form, p, line)
        for row in step:
            self.assertTrue(samples.plain_is_good(form, p, line, lifted, row))
        self.assertIn(plain_determinant(step), (p ** 3, -p ** 3))
        self.assertEqual(made, plain_made(form, p, step))
        self.assertTrue(plain_is_form(made))
        self.assertEqual(plain_determinant(made), plain_determinant(form))

    def test_by_hand(self):
        # All forms of these half determinants are of one kind.
        for form in (SQUARES, LEAST_HALF):
            for p in primes_of(form):
                for line in plain_lines(form, p):
                    self.assertEqual(least(beside(form, p, line)[0])[0], least(form)[0])

    def test_every_line(self):
        seen = set()
        for form, p, line in all_lines():
            with self.subTest(form=form, p=p, line=line):
                self.right(form, p, line)
            seen.add((p, line.index(1)))
        self.assertLessEqual({(p, at) for p in PRIMES for at in range(2)}, seen)
        self.assertIn(2, [at for p, at in seen])

    def test_many_halves(self):
        for half in range(2, 201):
            told = list(samples.small_forms(half))
            form = told[half % len(told)]
            for p in primes_of(form)[:2]:
                for line in plain_lines(form, p):
                    self.right(form, p, line)

    def test_all_steps_of_one_line_make_alike_forms(self):
        for form, p, line in all_lines(1, 5):
            made, step = beside(form, p, line)
            for other in other_steps(step, samples.bases(3)[:3]):
                self.assertEqual(least(plain_made(form, p, other))[0], least(made)[0])

    def test_forms_told_are_handed_in_again(self):
        form = even_table(2, 4, 6, 1, -1, 0)
        for p in (3, 5, 7, 11, 13) * 3:
            line = plain_lines(form, p)[1]
            made, step = beside(form, p, line)
            self.assertTrue(plain_is_form(made))
            self.assertEqual(plain_determinant(made), plain_determinant(form))
            self.assertTrue(is_step(form, p, line, step))
            form = made
        self.assertEqual(plain_determinant(least(form)[0]), plain_determinant(form))


class IsStep(unittest.TestCase):
    def judged(self, form, p, line, table):
        """That what is told is what the test finds itself."""
        wanted = plain_is_step(form, p, line, table)
        self.assertIs(is_step(form, p, line, table), wanted, (form, p, line, table))
        return wanted

    def test_told_steps_and_others_of_the_same_line(self):
        for form, p, line in all_lines(1, 7):
            step = beside(form, p, line)[1]
            for table in [step] + other_steps(step, samples.bases(2)[:2] + samples.bases(5000, steps=8)[:1]):
                self.assertTrue(self.judged(form, p, line, table))

    def test_told_steps_of_great_primes(self):
        for form, p, line in list(all_lines(1))[::3]:
            step = beside(form, p, line)[1]
            self.assertIs(is_step(form, p, line, step), True)
            self.assertIs(is_step(form, p, line, step[::-1]), True)

    def test_one_number_changed(self):
        source, seen = random.Random(19), []
        for form, p, line in list(all_lines(1, 7))[::3]:
            step = beside(form, p, line)[1]
            for i in range(3):
                for j in range(3):
                    table = copy.deepcopy(step)
                    table[i][j] += source.choice([1, -1, 2, p, -p, p * p, p ** 3])
                    seen.append(self.judged(form, p, line, table))
        self.assertIn(False, seen)
        self.assertIn(True, seen)

    def test_a_row_that_is_no_number_of_times_the_line(self):
        for form, p, line in all_lines(1, 7):
            lifted, lead = plain_lift(form, p, line), line.index(1)
            one, other = [at for at in range(3) if at != lead]
            first, second = [samples.plain_pairing(form, lifted, units(at)) % (p * p) for at in (one, other)]
            if first % p == 0:
                one, other, first, second = other, one, second, first
            # The pairing of the row with the lift is divided by p p, and the determinant is p p p.
            times = [k for k in range(p * p) if (second + k * first) % (p * p) == 0][0]
            row = [x + times * y for x, y in zip(units(other), units(one))]
            table = [lifted, row, [p ** 3 * x for x in units(one)]]
            self.assertIn(plain_determinant(table), (p ** 3, -p ** 3))
            self.assertEqual([samples.plain_pairing(form, lifted, row) % (p * p) for row in table], [0, 0, 0])
            self.assertFalse(self.judged(form, p, line, table))

    def test_a_row_whose_pairing_with_the_lift_is_not_divided(self):
        for form, p, line in all_lines(1, 7):
            lifted, lead = plain_lift(form, p, line), line.index(1)
            one, other = [at for at in range(3) if at != lead]
            if samples.plain_pairing(form, lifted, units(one)) % p == 0:
                one, other = other, one
            table = [lifted, [p * x for x in units(one)], [p * p * x for x in units(other)]]
            self.assertIn(plain_determinant(table), (p ** 3, -p ** 3))
            self.assertFalse(self.judged(form, p, line, table))
            made, step = beside(form, p, line)
            if line != lifted:
                self.judged(form, p, line, [line, step[1], step[2]])

    def test_good_rows_of_another_determinant(self):
        for form, p, line in all_lines(1, 7):
            a, b, c = beside(form, p, line)[1]
            twice, times_p = [2 * x for x in a], [p * x for x in b]
            tables = [[a, a, c], [twice, b, c], [a, b, [0, 0, 0]], NOUGHT, [a, times_p, c], [a, b, b]]
            tables += [[a, b, [p * x for x in c]], [[p * x for x in units(at)] for at in range(3)]]
            tables += [[[p * p * x for x in units(at)] for at in range(3)]]
            for table in tables:
                self.assertFalse(self.judged(form, p, line, table))

    def test_other_tables(self):
        for form, p, line in list(all_lines(1, 7))[::8]:
            for table in samples.tables(2) + samples.bases(2)[:2] + [form]:
                self.assertFalse(self.judged(form, p, line, table))

    def test_steps_of_other_lines(self):
        for form, p in cases(1):
            if p <= 5:
                told = plain_lines(form, p)
                steps = [beside(form, p, line)[1] for line in told]
                for line in told:
                    for at, step in enumerate(steps):
                        self.assertEqual(self.judged(form, p, line, step), line == told[at])


class WayBack(unittest.TestCase):
    def right(self, form, p, line, step, through):
        """That what is told is as point 20 says; where asked, by going through all lines of the form made."""
        with samples.in_time(20):
            told = way_back(form, p, line, step)
        self.assertIs(type(told), tuple)
        back_line, back_step = told
        made = plain_made(form, p, step)
        square = [[p * p * x for x in row] for row in ONE]
        self.assertEqual(plain_product(step, back_step), square)
        self.assertEqual(plain_product(back_step, step), square)
        self.assertEqual(plain_made(made, p, back_step), form)
        lines = plain_lines(made, p) if through else [back_line]
        self.assertIn(back_line, lines)
        self.assertEqual([one for one in lines if plain_is_step(made, p, one, back_step)], [back_line])
        self.assertEqual(way_back(made, p, back_line, back_step), (line, step))

    def test_every_line(self):
        for form, p, line in all_lines(1, 5):
            with self.subTest(form=form, p=p, line=line):
                self.right(form, p, line, beside(form, p, line)[1], True)

    def test_great_primes(self):
        for form, p, line in list(all_lines(2))[::4]:
            if p > 5:
                self.right(form, p, line, beside(form, p, line)[1], p == 7)

    def test_other_steps(self):
        bases = samples.bases(3)[:2] + samples.bases(5000, steps=8)[:1]
        for form, p, line in list(all_lines(1, 7))[::5]:
            for step in other_steps(beside(form, p, line)[1], bases):
                self.right(form, p, line, step, p == 3)

    def test_no_step(self):
        for form, p, line in list(all_lines(1, 7))[::6]:
            a, b, c = beside(form, p, line)[1]
            tables = [ONE, NOUGHT, form, [a, a, c], [a, b, [2 * x for x in c]], [a, [x + 1 for x in b], c]]
            tables += [[[p * x for x in row] for row in ONE]] + samples.tables(1)
            tables += [beside(form, p, other)[1] for other in plain_lines(form, p) if other != line]
            for table in tables:
                self.assertFalse(plain_is_step(form, p, line, table))
                with self.assertRaises(NoStep):
                    way_back(form, p, line, table)


class Refused(unittest.TestCase):
    def calls(self, form, p, line):
        told = [lambda: beside(form, p, line)]
        for table in (ONE, [[0, 1, 7], [5, 0, 0], [0, 0, 25]]):
            told += [lambda: is_step(form, p, line, table), lambda: way_back(form, p, line, table)]
        return told

    def refused(self, error, form, p, line):
        for call in self.calls(form, p, line):
            with self.subTest(form=form, p=p, line=line), self.assertRaises(error) as caught:
                call()
            self.assertIs(type(caught.exception), error)

    def test_nothing_is_refused_that_is_right(self):
        self.assertIs(is_step(SQUARES, 5, [0, 1, 2], [[0, 1, 7], [5, 0, 0], [0, 0, 25]]), True)
        self.assertIs(is_step(SQUARES, 5, [0, 1, 2], ONE), False)
        beside(SQUARES, 5, [0, 1, 2])
        way_back(SQUARES, 5, [0, 1, 2], [[0, 1, 7], [5, 0, 0], [0, 0, 25]])

    def test_no_line_of_any_thing(self):
        for thing in NO_LINES:
            self.refused(NoLine, SQUARES, 5, thing)
        for line in plain_lines(SQUARES, 5):
            for thing in (tuple(line), [line], line + [0], line[:2], [x + 5 for x in line], [2 * x % 5 for x in line]):
                self.refused(NoLine, SQUARES, 5, thing)
        self.refused(NoLine, SQUARES, 5, [False, True, 2])

    def test_no_prime_of_any_thing(self):
        for form in (SQUARES, even_table(2, 2, 2, 1, 0, 0)):
            for thing in samples.no_primes():
                for line in ([0, 1, 2], None, "line"):
                    self.refused(NoPrime, form, thing, line)

    def test_primes_that_divide_the_half(self):
        for form in NEAR_FORMS:
            for p in PRIMES:
                if p not in primes_of(form):
                    self.refused(NoPrime, form, p, [0, 1, 2])

    def test_no_form_and_too_great_come_first(self):
        for p in [3, 5, 67, THIRTY, True, None, "5", [5]]:
            for line in ([0, 1, 2], [0, 0, 0], None, True, "line"):
                self.refused(TooGreat, TOO_GREAT, p, line)
                for no_form in (NO_FORM, None, True, [], TOO_GREAT[:2], tuple(TOO_GREAT)):
                    self.refused(NoForm, no_form, p, line)


if __name__ == "__main__":
    unittest.main()
