"""Points 31 and 32: papers, and whether any thing is a right one."""

import copy
import random
import unittest

from conekin.beside import beside
from conekin.books import book
from conekin.errors import NoForm, NoPrime, TooGreat
from conekin.least import alike, least
from conekin.papers import is_right, paper
from conekin.turnings import turnings
from tests import samples
from tests.samples import BOOKED_FORMS, PRIMES, THIRTY, even_table, plain_determinant, plain_is_form, plain_is_step
from tests.samples import plain_lines, plain_made, plain_product, primes_of

SQUARES = even_table(2, 2, 2, 0, 0, 0)
NO_FORM = even_table(2, 2, 2, -1, -1, -1)
# Half determinants 101, 200 and 201.
TOO_GREAT = [even_table(2, 2, 68, -1, -1, 0), even_table(2, 2, 100, 0, 0, 0), even_table(2, 2, 134, 1, 0, 0)]
# Two kinds, of the half determinant 11.
ELEVEN = even_table(2, 2, 8, 1, 1, 1)


def is_plain_row(thing):
    return type(thing) is list and [type(number) for number in thing] == [int] * 3


def is_plain_table(thing):
    return type(thing) is list and len(thing) == 3 and all(is_plain_row(row) for row in thing)


def is_plain_tuple(thing, many):
    return type(thing) is tuple and len(thing) == many


def is_plain_link(link, form, p, line, forms):
    if not is_plain_tuple(link, 3) or not is_plain_row(link[0]) or not is_plain_table(link[1]):
        return False
    told, step, number = link
    if told != line or type(number) is not int or number not in range(len(forms)):
        return False
    return plain_is_step(form, p, line, step) and plain_made(form, p, step) == forms[number]


def plain_is_right(form, thing):
    """As point 31 says, word by word."""
    if not is_plain_tuple(thing, 2) or type(thing[0]) is not int or thing[0] not in primes_of(form):
        return False
    p, entries = thing
    if type(entries) is not list or not entries:
        return False
    for entry in entries:
        if not is_plain_tuple(entry, 2) or not is_plain_table(entry[0]) or type(entry[1]) is not list:
            return False
        if not plain_is_form(entry[0]) or plain_determinant(entry[0]) != plain_determinant(form):
            return False
    forms = [entry[0] for entry in entries]
    if forms[0] != form:
        return False
    for one, links in entries:
        told = plain_lines(one, p)
        if len(told) != len(links):
            return False
        if not all(is_plain_link(link, one, p, line, forms) for link, line in zip(links, told)):
            return False
    return True


def written(p, forms, source):
    """A paper that the test writes itself, with these forms as entries; among alike ones any one is taken."""
    entries = []
    for form in forms:
        links = []
        for line in plain_lines(form, p):
            made, step = beside(form, p, line)
            numbers = [at for at, other in enumerate(forms) if least(other)[0] == least(made)[0]]
            number = source.choice(numbers)
            basis = alike(made, forms[number])
            turning = source.choice(turnings(forms[number]))
            links.append((line, plain_product(plain_product(turning, basis), step), number))
        entries.append((copy.deepcopy(form), links))
    return p, entries


def far(form):
    return samples.plain_carried(form, samples.far_bases(form)[-1])


def some_papers():
    """Right papers, each with its form."""
    source = random.Random(31)
    for form in (ELEVEN, SQUARES, even_table(2, 2, 18, -1, 0, 0), even_table(2, 4, 6, 1, -1, 0)):
        for p in primes_of(form)[:2]:
            yield form, paper(form, p)
            yield form, written(p, [form] + book(form, p)[0], source)


class Paper(unittest.TestCase):
    def right(self, form, p):
        with samples.in_time(20):
            told = paper(form, p)
            self.assertIs(is_right(form, told), True)
        self.assertTrue(plain_is_right(form, told))
        self.assertEqual(told[0], p)
        self.assertEqual(told[1][0][0], form)
        kinds = [least(entry[0])[0] for entry in told[1]]
        self.assertEqual(sorted({str(kind) for kind in kinds}), sorted(str(kind) for kind in book(form, p)[0]))

    def test_all_primes(self):
        for form in BOOKED_FORMS + [ELEVEN]:
            for p in primes_of(form):
                with self.subTest(form=form, p=p):
                    self.right(form, p)

    def test_forms_of_great_numbers(self):
        for form in BOOKED_FORMS + [ELEVEN]:
            for basis in samples.bases(2)[:1] + samples.far_bases(form)[-3:]:
                self.right(samples.plain_carried(form, basis), primes_of(form)[-1])

    def test_all_kinds_of_a_book(self):
        for kind in book(even_table(2, 4, 18, 0, 0, -1), 3)[0]:
            self.right(kind, 3)

    def test_refused(self):
        for thing in samples.any_things() + samples.wrong_shapes(TOO_GREAT[0]) + [NO_FORM]:
            for p in (3, 0, None):
                with self.assertRaises(NoForm):
                    paper(thing, p)
        for form in TOO_GREAT + [far(TOO_GREAT[0])]:
            for p in (3, 7, 0, None, True):
                with self.assertRaises(TooGreat):
                    paper(form, p)
        for form in (SQUARES, even_table(2, 2, 2, 1, 0, 0)):
            for thing in samples.no_primes() + [p for p in PRIMES if p not in primes_of(form)]:
                with self.assertRaises(NoPrime):
                    paper(form, thing)


class WrittenOtherwise(unittest.TestCase):
    def right(self, form, told):
        with samples.in_time(20):
            self.assertIs(is_right(form, told), True)
        self.assertTrue(plain_is_right(form, told))

    def test_entries_in_another_order(self):
        source = random.Random(1)
        for form in (even_table(2, 2, 32, -1, -1, 0), even_table(2, 4, 18, 0, 0, -1)):
            for p in primes_of(form)[:2]:
                others = book(form, p)[0][1:]
                for order in (others[::-1], others[1:] + others[:1], sorted(others)):
                    self.right(form, written(p, [form] + order, source))

    def test_renumbered(self):
        form = even_table(2, 4, 18, 0, 0, -1)
        p, entries = paper(form, 3)
        order = [0, 4, 2, 6, 1, 3, 5]
        told = [entries[at] for at in order]
        told = [(one, [(line, step, order.index(number)) for line, step, number in links]) for one, links in told]
        self.assertNotEqual(told, entries)
        self.right(form, (p, told))

    def test_more_entries_than_needed(self):
        source = random.Random(2)
        for form in (SQUARES, ELEVEN, even_table(2, 2, 18, -1, 0, 0)):
            for p in primes_of(form)[:2]:
                kinds = book(form, p)[0]
                self.right(form, written(p, [form] + kinds + kinds[::-1] + [form], source))
                moved = [samples.plain_carried(kind, basis) for kind in kinds for basis in samples.bases(2)[:2]]
                self.right(form, written(p, [form] + moved + [far(kinds[0])], source))
                p, entries = paper(form, p)
                self.right(form, (p, entries + copy.deepcopy(entries)))

    def test_kinds_that_can_not_be_reached(self):
        form, other = even_table(2, 2, 54, -1, 0, 0), even_table(2, 6, 14, 0, -1, 0)
        self.assertEqual(plain_determinant(form), plain_determinant(other))
        self.assertNotIn(least(other)[0], book(form, 7)[0])
        forms = [form] + book(form, 7)[0][1:] + [other]
        self.right(form, written(7, forms, random.Random(3)))

    def test_other_forms_of_the_same_kinds(self):
        source = random.Random(4)
        for form in (ELEVEN, even_table(2, 2, 32, -1, -1, 0)):
            for at, basis in enumerate(samples.bases(1)[:3] + samples.bases(9)[:2]):
                p = primes_of(form)[at % 3]
                forms = [samples.plain_carried(kind, basis) for kind in book(form, p)[0]]
                self.right(forms[0], written(p, forms, source))

    def test_other_steps_of_the_same_lines(self):
        # The contrary of a step makes the same form.
        for form, (p, entries) in some_papers():
            told = [(one, [(line, [[-x for x in row] for row in step], number) for line, step, number in links])
                    for one, links in entries]
            self.right(form, (p, told))


def places(thing, way=()):
    """The ways to all things within a thing."""
    yield way
    if isinstance(thing, (list, tuple)):
        for at, one in enumerate(thing):
            yield from places(one, way + (at,))


def at_place(thing, way):
    for at in way:
        thing = thing[at]
    return thing


def changed(thing, way, put):
    """The thing with another one put at a place."""
    if not way:
        return put
    told = list(copy.deepcopy(thing))
    told[way[0]] = changed(told[way[0]], way[1:], put)
    return type(thing)(told)


def others_for(source, thing):
    """Things that may be put in the place of a thing."""
    if isinstance(thing, int):
        told = [thing + 1, thing - 1, -thing, thing + 9, thing + 3, 0, 1, THIRTY, None, str(thing), [thing], (thing,)]
        return told + [bool(thing)] if thing in (0, 1) else told
    told = [tuple(thing) if isinstance(thing, list) else list(thing), thing[1:], thing[:-1], thing + thing[-1:]]
    told += [thing + thing[:1], thing[::-1], thing[1:] + thing[:1], None, True, 0, "", [], (), thing[:1] + thing]
    told += [[thing], (thing,), str(thing)[:20]]
    if len(thing) > 1:
        mixed = list(thing)
        source.shuffle(mixed)
        told.append(type(thing)(mixed))
    return told


class Judged(unittest.TestCase):
    def judged(self, form, thing):
        """What is told, which must be what the test finds itself."""
        wanted = plain_is_right(form, thing)
        self.assertIs(is_right(form, thing), wanted, thing)
        return wanted

    def test_papers_changed_at_one_place(self):
        source, seen = random.Random(32), []
        for form, told in some_papers():
            ways = list(places(told))
            few = [way for way in ways if len(way) < 3]
            for way in few + source.sample(ways, min(len(ways), 150)):
                one = at_place(told, way)
                if not isinstance(one, str):
                    put = source.choice(others_for(source, one))
                    seen.append(self.judged(form, changed(told, way, put)))
            self.assertTrue(self.judged(form, told))
        self.assertGreater(seen.count(False), 500)

    def test_every_kind_of_change_at_every_place(self):
        source = random.Random(33)
        told = written(3, [ELEVEN] + book(ELEVEN, 3)[0][1:], source)
        for way in places(told):
            for put in others_for(source, at_place(told, way)):
                self.judged(ELEVEN, changed(told, way, put))

    def test_changes_that_leave_it_right(self):
        source, seen = random.Random(34), []
        for form, (p, entries) in some_papers():
            entries = entries + copy.deepcopy(entries)
            many = len(entries) // 2
            for at, (one, links) in enumerate(entries):
                for place, (line, step, number) in enumerate(links):
                    a, b, c = step
                    steps = [[b, a, c], [[-x for x in a], b, c], [a, b, [-x for x in c]], [c, a, b]]
                    link = (line, source.choice(steps), (number + many) % len(entries))
                    for put in (link, (line, step, link[2]), (line, link[1], number)):
                        way = (1, at, 1, place)
                        seen.append(self.judged(form, changed((p, entries), way, put)))
        self.assertGreater(seen.count(True), 50)
        self.assertGreater(seen.count(False), 50)

    def test_truths_for_numbers(self):
        wrong = 0
        for form, told in some_papers():
            for way in places(told):
                one = at_place(told, way)
                if type(one) is int and one in (0, 1):
                    self.assertIs(is_right(form, changed(told, way, bool(one))), False)
                    wrong += 1
        self.assertGreater(wrong, 100)

    def test_lists_for_tuples_and_tuples_for_lists(self):
        for form, told in some_papers():
            for way in places(told):
                one = at_place(told, way)
                if isinstance(one, (list, tuple)):
                    put = tuple(one) if isinstance(one, list) else list(one)
                    self.assertIs(is_right(form, changed(told, way, put)), False)

    def test_numbers_of_entries(self):
        for form, (p, entries) in some_papers():
            for at, (one, links) in enumerate(entries):
                for place in (0, len(links) - 1):
                    right = links[place][2]
                    for number in [-1, -len(entries), right - len(entries), len(entries), THIRTY, -THIRTY, None, "0"]:
                        told = changed((p, entries), (1, at, 1, place, 2), number)
                        self.assertIs(is_right(form, told), False)
                    for number in range(len(entries)):
                        self.judged(form, changed((p, entries), (1, at, 1, place, 2), number))

    def test_links_left_out_put_twice_and_in_another_order(self):
        for form, (p, entries) in some_papers():
            for at, (one, links) in enumerate(entries):
                for put in (links[1:], links[:-1], links + links[-1:], links[:1] + links, links[::-1], [],
                            links[:2] + links[1:-1], links[1:2] + links[:1] + links[2:]):
                    told = changed((p, entries), (1, at, 1), put)
                    self.assertIs(is_right(form, told), False)

    def test_other_primes(self):
        for form, (p, entries) in some_papers():
            for prime in list(range(-5, 20)) + [True, None, "3", (3,), [p], THIRTY]:
                self.assertEqual(is_right(form, (prime, entries)), prime == p and prime is not True)

    def test_papers_of_other_forms(self):
        told = list(some_papers())
        for form, one in told:
            for other, another in told:
                self.assertEqual(self.judged(form, another), form == other)
        self.assertFalse(self.judged(ELEVEN, paper(least(ELEVEN)[0], 3)))
        self.assertFalse(self.judged(least(ELEVEN)[0], paper(ELEVEN, 3)))

    def test_an_entry_of_another_half(self):
        p, entries = paper(ELEVEN, 3)
        self.assertTrue(self.judged(ELEVEN, (p, entries)))
        self.assertFalse(self.judged(ELEVEN, (p, entries + paper(SQUARES, 3)[1])))
        alone = [(one, [(line, step, 2) for line, step, number in links]) for one, links in paper(SQUARES, 3)[1]]
        self.assertFalse(self.judged(ELEVEN, (p, entries + alone)))

    def test_an_entry_that_is_no_form(self):
        p, entries = paper(ELEVEN, 3)
        # One of worths below 0, one of odd numbers on the diagonal, one that isn't its own turned over one.
        tables = [even_table(-2, -6, 2, 1, 0, 0), even_table(1, 2, 11, 0, 0, 0), [[2, 1, 0], [-3, 4, 0], [0, 0, 2]]]
        for table in tables:
            self.assertEqual(plain_determinant(table), plain_determinant(ELEVEN))
            for links in ([], entries[0][1]):
                self.assertFalse(self.judged(ELEVEN, (p, entries + [(table, links)])))

    def test_any_thing(self):
        p, entries = paper(ELEVEN, 3)
        things = samples.any_things() + samples.wrong_shapes(ELEVEN) + [ELEVEN, (3, []), (3,), (3, None), (3, ())]
        things += [(3, [()]), (3, [(ELEVEN, [])]), (3, [None]), (3, [[]]), (3, [(ELEVEN,)]), (3, "ab"), (None, None)]
        things += [[3, entries], (3, tuple(entries)), (3, entries, 0), (entries, 3), entries, (p, entries[:1])]
        things += [(p, entries[1:]), (p, entries[::-1]), (p, [entries]), (p, entries + [None]), (p, [[]] + entries)]
        for thing in things:
            self.assertIs(is_right(ELEVEN, thing), False)
            self.assertFalse(plain_is_right(ELEVEN, thing))

    def test_forms_of_great_numbers(self):
        source = random.Random(35)
        for form in (ELEVEN, even_table(2, 2, 32, -1, -1, 0)):
            great = far(form)
            told = paper(great, 3)
            ways = [way for way in places(told) if type(at_place(told, way)) is int]
            for way in source.sample(ways, 60):
                with samples.in_time(20):
                    self.judged(great, changed(told, way, at_place(told, way) + source.choice([1, -1, 9])))


class Refused(unittest.TestCase):
    def test_of_the_form_alone(self):
        right = paper(SQUARES, 3)
        things = [right, None, True, (3, []), [], "paper", (None, [None])]
        for told in things:
            for thing in samples.any_things() + samples.wrong_shapes(TOO_GREAT[0]) + [NO_FORM]:
                with self.assertRaises(NoForm):
                    is_right(thing, told)
            for form in TOO_GREAT + [far(TOO_GREAT[0])]:
                with self.assertRaises(TooGreat):
                    is_right(form, told)
        self.assertIs(is_right(even_table(2, 2, 50, 0, 0, 0), right), False)


if __name__ == "__main__":
    unittest.main()
