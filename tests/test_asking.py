"""Points 2 and 8 of all functions that take forms, of half determinants to 200 or, for books, to 100."""

import copy
import unittest

from conekin.beside import beside, is_step, way_back
from conekin.books import book, kin_by_two
from conekin.cone import lift, line_of, lines
from conekin.errors import KinError, NoForm, NoLine, NoPrime, NoStep, NoWorth, TooGreat
from conekin.least import alike, least
from conekin.led import led, led_alone, sign
from conekin.papers import is_right, paper
from conekin.rows import counts_to, how_many, least_worth, rows_of
from conekin.shares import polynomial, shared, weight
from conekin.texts import show
from conekin.turnings import turnings, turnings_many
from tests import samples
from tests.samples import LEAST_HALF, NOUGHT, ONE, even_table

SQUARES = even_table(2, 2, 2, 0, 0, 0)
FAR = [[2, 11, 0], [11, 62, 0], [0, 0, 6]]

CALLS = [
    ("rows_of", rows_of, (1,)), ("rows_of", rows_of, (0,)), ("rows_of", rows_of, (5,)), ("how_many", how_many, (4,)),
    ("counts_to", counts_to, (6,)), ("least_worth", least_worth, ()), ("least", least, ()),
    ("turnings", turnings, ()), ("turnings_many", turnings_many, ()), ("lines", lines, (7,)), ("lines", lines, (13,)),
    ("line_of", line_of, (7, [3, -2, 8])), ("alike", alike, (SQUARES,)),
    ("alike", lambda one, other: alike(other, one), (SQUARES,)), ("show", show, ()),
]

# What is asked of a line: of the sum of three squares this is one.
LINE_CALLS = [
    ("lift", lift, (7, [1, 2, 3])), ("beside", beside, (7, [1, 2, 3])), ("is_step", is_step, (7, [1, 2, 3], SQUARES)),
    ("way_back", way_back, (7, [1, 2, 3], [[1, 2, 17], [0, 7, 28], [0, 0, 49]])),
]

# What takes half determinants to 100.
BOOK_CALLS = [
    ("book", book, (7,)), ("kin_by_two", kin_by_two, (7, 13)), ("kin_by_two", kin_by_two, (13, 7)),
    ("sign", sign, (7, 3)), ("led", led, (7, 2)), ("led_alone", led_alone, (7, 2)), ("led_alone", led_alone, (7, 0)),
    ("weight", weight, (7,)), ("shared", shared, (7, 2)), ("paper", paper, (7,)), ("is_right", is_right, ((7, []),)),
]


def asked_of(form):
    """All calls, with a list of what is handed in, such as can be asked of a form."""
    told = [(name, call, [form] + list(more)) for name, call, more in CALLS]
    told.append(("alike", alike, [form, form]))
    for line in lines(form, 7):
        told.append(("line_of", line_of, [form, 7, [3 * number - 7 for number in line]]))
        told.append(("line_of", line_of, [form, 7, line]))
        told.append(("lift", lift, [form, 7, line]))
        told.append(("beside", beside, [form, 7, line]))
        step = beside(form, 7, line)[1]
        told += [("is_step", is_step, [form, 7, line, step]), ("is_step", is_step, [form, 7, line, form])]
        told += [("way_back", way_back, [form, 7, line, step]), ("way_back", way_back, [form, 7, line, step[::-1]])]
    return told


def asked_of_booked(form):
    """As asked_of, with what books tell."""
    told = asked_of(form) + [(name, call, [form] + list(more)) for name, call, more in BOOK_CALLS]
    return told + [("is_right", is_right, [form, paper(form, 7)]), ("polynomial", polynomial, [book(form, 7)[1]])]


class Bounds(unittest.TestCase):
    def calls(self, form):
        for name, call, more in CALLS + LINE_CALLS + BOOK_CALLS:
            yield name, lambda: call(copy.deepcopy(form), *copy.deepcopy(more))

    def test_no_form_of_any_thing(self):
        things = samples.any_things() + samples.wrong_shapes(SQUARES) + [NOUGHT, ONE]
        things += [even_table(2, 2, 2, -1, -1, -1), even_table(-2, -2, 2, 0, 0, 0), [[2, 1, 0], [0, 2, 0], [0, 0, 2]]]
        things += [even_table(2, 2, 3, 0, 0, 0), [[2, False, False], [False, 2, False], [False, False, 2]]]
        things += [even_table(2, 2, -1000, 0, 0, 0), samples.wrong_shapes(even_table(90, 90, 90, 0, 0, 0))]
        for thing in things:
            for name, call in self.calls(thing):
                with self.subTest(name=name, thing=thing), self.assertRaises(NoForm):
                    call()

    def test_too_great(self):
        forms = [even_table(2, 2, 134, 1, 0, 0), even_table(2, 2, 102, 0, 0, 0), even_table(90, 90, 90, 1, 1, 1)]
        forms += [samples.plain_carried(forms[0], basis) for basis in samples.far_bases(forms[0])[::9]]
        for form in forms:
            for name, call in self.calls(form):
                with self.subTest(name=name, form=form), self.assertRaises(TooGreat):
                    call()

    def test_too_great_for_books(self):
        forms = [even_table(2, 2, 68, -1, -1, 0), even_table(2, 2, 68, 1, 0, 0), even_table(2, 2, 100, 0, 0, 0)]
        for form in forms + [samples.plain_carried(forms[0], samples.far_bases(forms[0])[-1])]:
            for name, call, more in BOOK_CALLS:
                with self.subTest(name=name, form=form), self.assertRaises(TooGreat):
                    call(form, *more)

    def test_the_greatest_that_are_taken_for_books(self):
        for form in (even_table(2, 2, 50, 0, 0, 0), even_table(2, 4, 26, 0, 0, 2)):
            for far in [form, samples.plain_carried(form, samples.far_bases(form)[-1])]:
                for name, call, handed in asked_of_booked(far):
                    with self.subTest(name=name):
                        call(*handed)

    def test_the_greatest_that_are_taken(self):
        for form in (even_table(2, 2, 100, 0, 0, 0), even_table(2, 10, 20, 0, 0, 0), even_table(2, 2, 132, 1, 0, 0)):
            for far in [form, samples.plain_carried(form, samples.far_bases(form)[-1])]:
                for name, call, handed in asked_of(far):
                    with self.subTest(name=name):
                        call(*handed)


class OwnLists(unittest.TestCase):
    def cases(self):
        for form in (SQUARES, LEAST_HALF, FAR, even_table(2, 4, 6, 1, -1, 0)):
            for name, call, handed in asked_of_booked(form):
                yield name, call, copy.deepcopy(handed)

    def test_told_is_new_and_handed_in_stays(self):
        for name, call, handed in self.cases():
            with self.subTest(name=name):
                kept = copy.deepcopy(handed)
                told = call(*handed)
                self.assertEqual(handed, kept)
                lists = [id(one) for one in samples.lists_in(told)]
                self.assertEqual(len(set(lists)), len(lists))
                self.assertFalse(set(lists) & {id(one) for one in samples.lists_in(handed)})

    def test_told_changed_changes_nothing_else(self):
        for name, call, handed in self.cases():
            with self.subTest(name=name):
                start = copy.deepcopy(handed)
                told = call(*handed)
                kept = copy.deepcopy(told)
                samples.spoil(told)
                self.assertEqual(handed, start)
                self.assertEqual(call(*handed), kept)

    def test_changed_behind_the_call(self):
        for name, call, handed in self.cases():
            with self.subTest(name=name):
                start = copy.deepcopy(handed)
                told = call(*handed)
                kept = copy.deepcopy(told)
                samples.spoil(handed)
                self.assertEqual(told, kept)
                self.assertEqual(call(*start), kept)

    def test_asked_later_changes_nothing_told(self):
        told = [(call(*handed), call, handed) for name, call, handed in self.cases()]
        kept = copy.deepcopy([one for one, call, handed in told])
        for one, call, handed in reversed(told):
            call(*handed)
        self.assertEqual([one for one, call, handed in told], kept)

    def test_the_same_list_changed_between_two_calls(self):
        form = copy.deepcopy(SQUARES)
        self.assertEqual((how_many(form, 1), turnings_many(form), len(lines(form, 3))), (6, 48, 4))
        form[2][2] = 4
        self.assertEqual((how_many(form, 1), turnings_many(form), len(lines(form, 3))), (4, 16, 4))
        self.assertEqual(least(form)[0], even_table(2, 2, 4, 0, 0, 0))
        self.assertIsNone(alike(form, SQUARES))
        form[2][2] = -2
        with self.assertRaises(NoForm):
            how_many(form, 1)

    def test_what_was_told_is_handed_in_again(self):
        far = samples.plain_carried(even_table(2, 4, 6, 1, -1, 0), samples.bases(9)[3])
        told, basis = least(far)
        self.assertEqual(least(told)[0], told)
        self.assertIsNotNone(alike(told, far))
        line = lines(far, 7)[0]
        self.assertEqual(line_of(far, 7, lift(far, 7, line)), line)
        for row in rows_of(far, 14):
            self.assertIsNotNone(line_of(far, 7, row))
        made, step = beside(far, 7, line)
        line_home, step_home = way_back(far, 7, line, step)
        self.assertEqual(way_back(made, 7, line_home, step_home), (line, step))
        for kind in book(made, 7)[0]:
            self.assertEqual(book(kind, 7)[0][0], kind)
        self.assertTrue(is_right(made, paper(made, 7)))
        self.assertEqual(polynomial(book(made, 7)[1]), polynomial(book(far, 7)[1]))

    def test_refused_changes_nothing(self):
        for name, call, more in CALLS + LINE_CALLS + BOOK_CALLS:
            for start in (even_table(2, 2, 134, 1, 0, 0), NOUGHT, [[2, 0], [0, 2]]):
                form, handed = copy.deepcopy(start), copy.deepcopy(more)
                with self.assertRaises((NoForm, TooGreat)):
                    call(form, *handed)
                self.assertEqual((form, handed), (start, more))

    def test_refused_for_other_things_changes_nothing(self):
        line, step = [1, 2, 3], [[1, 2, 17], [0, 7, 28], [0, 0, 49]]
        cases = [(NoPrime, book, [[7]]), (NoPrime, kin_by_two, [7, [13]]), (NoPrime, sign, [[7], 3])]
        cases += [(NoLine, beside, [7, [1, 2, 5]]), (NoLine, is_step, [7, [line], step]), (NoWorth, led, [7, [2]])]
        cases += [(NoStep, way_back, [7, line, SQUARES]), (NoWorth, led_alone, [7, [[2], 3]])]
        cases += [(NoPrime, weight, [[7]]), (NoWorth, shared, [7, [2]]), (NoPrime, paper, [[7]])]
        for error, call, more in copy.deepcopy(cases):
            form, handed = copy.deepcopy(SQUARES), copy.deepcopy(more)
            with self.assertRaises(KinError) as caught:
                call(form, *handed)
            self.assertIs(type(caught.exception), error)
            self.assertEqual((form, handed), (SQUARES, more))


if __name__ == "__main__":
    unittest.main()
