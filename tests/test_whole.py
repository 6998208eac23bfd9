"""Point 3, sentence by sentence, over the whole program."""

import unittest
from fractions import Fraction

from conekin.beside import beside, is_step, way_back
from conekin.books import book, kin_by_two
from conekin.cone import lines
from conekin.forms import half
from conekin.least import alike, least
from conekin.led import led, led_alone, sign
from conekin.papers import is_right, paper
from conekin.rows import how_many
from conekin.shares import polynomial, shared, weight
from conekin.texts import read, show
from conekin.turnings import turnings_many
from tests import samples
from tests.samples import BOOKED_FORMS, even_table, plain_carried, plain_made, primes_of


def forms_of(halves):
    """A form of each half determinant: some as they stand, some of great numbers."""
    for number in halves:
        told = list(samples.small_forms(number))
        form = told[(5 * number) % len(told)]
        bases = samples.far_bases(form)
        yield form if number % 3 else plain_carried(form, bases[number % len(bases)])


def unlike_forms(number):
    """The least forms of a half determinant, each once."""
    told = sorted({tuple(samples.order_list(least(form)[0])) for form in samples.small_forms(number)})
    return [even_table(*one) for one in told]


class Whole(unittest.TestCase):
    def test_alike_just_where_the_least_forms_are_the_same(self):
        for number in (12, 27, 44, 60, 81, 100):
            kinds = unlike_forms(number)
            self.assertGreater(len(kinds), 1)
            forms = [plain_carried(kind, basis) for kind in kinds for basis in samples.bases(2)[:2]]
            for one in forms:
                for other in forms:
                    basis = alike(one, other)
                    self.assertEqual(basis is not None, least(one)[0] == least(other)[0])
                    if basis is not None:
                        self.assertIn(samples.plain_determinant(basis), (1, -1))
                        self.assertEqual(plain_carried(one, basis), other)

    def test_each_line_leads_to_a_form_and_one_leads_back(self):
        for form in forms_of(range(2, 201, 3)):
            for p in primes_of(form):
                told = lines(form, p)
                self.assertEqual(len(told), p + 1)
                for line in told:
                    made, step = beside(form, p, line)
                    self.assertEqual(half(made), half(form))
                    line_back, step_back = way_back(form, p, line, step)
                    self.assertIn(line_back, lines(made, p))
                    self.assertTrue(is_step(made, p, line_back, step_back))
                    self.assertEqual(plain_made(made, p, step_back), form)

    def test_the_book_holds_each_kind_once(self):
        for form in list(forms_of(range(2, 101, 5))) + BOOKED_FORMS:
            for p in primes_of(form)[:2]:
                kinds, counts = book(form, p)
                turns = [turnings_many(kind) for kind in kinds]
                self.assertEqual(kinds[0], least(form)[0])
                for a, kind in enumerate(kinds):
                    self.assertEqual(kinds.count(kind), 1)
                    for line in lines(kind, p):
                        self.assertIn(least(beside(kind, p, line)[0])[0], kinds)
                    self.assertEqual(sum(counts[a]), p + 1)
                    for b in range(len(kinds)):
                        self.assertEqual(counts[a][b] * turns[b], counts[b][a] * turns[a])
                # Each kind is reached from the first one.
                reached = {0}
                for step in kinds:
                    reached |= {b for a in reached for b in range(len(kinds)) if counts[a][b]}
                self.assertEqual(reached, set(range(len(kinds))))

    def test_the_tables_of_two_primes_in_either_order(self):
        for form in list(forms_of(range(4, 101, 8))) + BOOKED_FORMS[3:9]:
            p, q = primes_of(form)[-1], primes_of(form)[0]
            kinds, counts, others = kin_by_two(form, p, q)
            many = range(len(kinds))
            for a in many:
                for b in many:
                    one = sum(counts[a][k] * others[k][b] for k in many)
                    self.assertEqual(one, sum(others[a][k] * counts[k][b] for k in many))

    def test_counts_led_by_the_table(self):
        for form in list(forms_of(range(3, 101, 12))) + BOOKED_FORMS[3:8]:
            for p in primes_of(form)[:2]:
                square = p * p
                kinds, counts = book(form, p)
                for n in sorted({0, 1, 2, 3, p, square, 600 // square} & set(range(600 // square + 1))):
                    rows = [how_many(kind, n) for kind in kinds]
                    for a, kind in enumerate(kinds):
                        led_by = sum(counts[a][b] * rows[b] for b in range(len(kinds)))
                        whole = how_many(kind, square * n) + sign(kind, p, n) * rows[a]
                        if n % square == 0:
                            whole += p * how_many(kind, n // square)
                        self.assertEqual(led_by, whole)
                    self.assertEqual(led(form, p, n), led_alone(form, p, n))
                    self.assertEqual(led(form, p, n), sum(counts[0][b] * rows[b] for b in range(len(kinds))))

    def test_counts_shared_by_turnings(self):
        for form in list(forms_of(range(5, 101, 12))) + BOOKED_FORMS[3:8]:
            for p in primes_of(form)[:2]:
                square = p * p
                for n in sorted({0, 1, 2, p, square, 350 // square} & set(range(350 // square + 1))):
                    left = Fraction(*shared(form, p, square * n)) + sign(form, p, n) * Fraction(*shared(form, p, n))
                    if n % square == 0:
                        left += p * Fraction(*shared(form, p, n // square))
                    self.assertEqual(left, (p + 1) * Fraction(*shared(form, p, n)))
                self.assertEqual(shared(form, p, 0), weight(form, p))

    def test_one_more_than_the_prime_is_a_root(self):
        for form in forms_of(range(7, 101, 9)):
            p = primes_of(form)[0]
            told = polynomial(book(form, p)[1])
            self.assertEqual(sum(number * (p + 1) ** power for power, number in enumerate(told)), 0)

    def test_a_right_paper_has_each_kind(self):
        for form in list(forms_of(range(2, 101, 6))) + BOOKED_FORMS:
            p = primes_of(form)[-1]
            kinds = book(form, p)[0]
            told = paper(form, p)
            self.assertIs(is_right(form, told), True)
            self.assertEqual(sorted(map(str, {str(least(one)[0]) for one, links in told[1]})), sorted(map(str, kinds)))
            # Where one kind is missing, no paper is right: its lines lead nowhere.
            for at in range(1, len(told[1])):
                fewer = told[1][:at] + told[1][at + 1:]
                self.assertIs(is_right(form, (p, fewer)), False)
                closed = [(one, [link for link in links if link[2] < at]) for one, links in told[1][:at]]
                self.assertIs(is_right(form, (p, closed)), False)

    def test_texts_of_all_that_is_told(self):
        for form in forms_of(range(2, 101, 9)):
            p = primes_of(form)[0]
            for kind in book(form, p)[0]:
                self.assertEqual(read(show(kind)), kind)


if __name__ == "__main__":
    unittest.main()
