"""Points 34 and 35: the desk."""

import unittest

from conekin.beside import beside
from conekin.books import book
from conekin.cone import lines
from conekin.desk import Desk
from conekin.errors import KinError, NoForm, NoLine, NoName, NoPrime, NoRow, NoText, NoWorth, TooGreat
from conekin.forms import half, worth
from conekin.least import alike, least
from conekin.led import led
from conekin.rows import how_many
from conekin.shares import weight
from conekin.texts import read, show
from conekin.turnings import turnings_many
from tests import samples
from tests.samples import BOOKED_FORMS, NEAR_FORMS, THIRTY, even_table, primes_of

# Names of one letter and of eight, and such as the first words of rows.
KEPT = {"a": "xx + yy + zz", "eleven": "xx + yy + 4zz + xy + xz + yz", "form": "xx + yy + 3zz - xy",
        "abcdefgh": "xx + yy + 51zz + xy", "zzzzzzzz": "xx + yy + 50zz", "names": "xx + 31yy + 3zz + 11xy"}


def desk_of(kept):
    desk = Desk()
    for name, text in kept.items():
        desk.say(f"form {name} {text}")
    return desk


def far_text(form):
    return show(samples.plain_carried(form, samples.far_bases(form)[-1]))


class Answers(unittest.TestCase):
    def answers(self, desk, wanted):
        for row, answer in wanted:
            told = desk.say(row)
            self.assertIs(type(told), str)
            self.assertEqual(told, answer, row)

    def test_by_hand(self):
        self.answers(Desk(), [
            ("names", "none"), ("form a xx + yy + zz", "ok"), ("names", "a"), ("show a", "xx + yy + zz"),
            ("half a", "4"), ("worth a 1 -2 3", "14"), ("worth a 0 0 0", "0"), ("count a 5", "24"), ("count a 0", "1"),
            ("least a", "xx + yy + zz"), ("turnings a", "48"), ("lines a 3", "1,1,1 1,1,2 1,2,1 1,2,2"),
            ("beside a 3 1 1 1", "xx + yy + zz"), ("kin a 3", "1; xx + yy + zz"), ("counts a 3", "4"),
            ("led a 3 1", "24"), ("weight a 3", "1/48"), ("alike a a", "yes"),
            ("form eleven xx + yy + 4zz + xy + xz + yz", "ok"), ("alike a eleven", "no"),
            ("least eleven", "xx + yy + 4zz - xy - xz"),
            ("kin eleven 3", "2; xx + yy + 4zz - xy - xz, xx + yy + 3zz - xz"),
            ("counts eleven 3", "1 3; 2 2"), ("weight eleven 3", "5/24"), ("names", "a eleven"),
        ])

    def test_against_the_functions(self):
        for form in BOOKED_FORMS:
            for text in (show(form), far_text(form)):
                desk = desk_of({"other": "xx + yy + zz", "f": text, "own": show(least(form)[0])})
                self.asked(desk, read(text))

    def asked(self, desk, form):
        """All rows about the form kept under f."""
        self.answers(desk, [
            ("show f", show(form)), ("half f", str(half(form))), ("least f", show(least(form)[0])),
            ("turnings f", str(turnings_many(form))), ("alike f own", "yes"), ("alike own f", "yes"),
            ("alike f other", "no" if alike(form, read("xx + yy + zz")) is None else "yes"),
        ])
        for row in ([0, 0, 0], [1, -2, 3], [-10, 0, 7], [THIRTY, -THIRTY, 1]):
            self.answers(desk, [("worth f " + " ".join(str(x) for x in row), str(worth(form, row)))])
        for n in (0, 1, 2, 30, 600):
            self.answers(desk, [(f"count f {n}", str(how_many(form, n)))])
        for p in primes_of(form)[::2]:
            kinds, counts = book(form, p)
            texts = [show(kind) for kind in kinds]
            top, bottom = weight(form, p)
            self.answers(desk, [
                (f"kin f {p}", str(len(kinds)) + "; " + ", ".join(texts)),
                (f"counts f {p}", "; ".join(" ".join(str(x) for x in row) for row in counts)),
                (f"led f {p} 0", str(p + 1)), (f"led f {p} 3", str(led(form, p, 3))),
                (f"weight f {p}", str(top) if bottom == 1 else f"{top}/{bottom}"),
                (f"lines f {p}", " ".join(",".join(str(x) for x in line) for line in lines(form, p))),
            ])
            for line in lines(form, p)[::3]:
                wanted = show(least(beside(form, p, line)[0])[0])
                self.answers(desk, [(f"beside f {p} " + " ".join(str(x) for x in line), wanted)])

    def test_half_determinants_to_200(self):
        for form in NEAR_FORMS:
            desk = desk_of({"f": show(form)})
            p = primes_of(form)[0]
            line = lines(form, p)[0]
            wanted = show(least(beside(form, p, line)[0])[0])
            self.answers(desk, [("half f", str(half(form))), (f"beside f {p} " + " ".join(map(str, line)), wanted)])

    def test_a_weight_without_bottom(self):
        # Of a prime half determinant the weight is one less than it, divided by 48.
        for form, wanted in ((even_table(2, 4, 30, -1, -1, -2), "2"), (even_table(2, 4, 22, -1, -1, -1), "3/2")):
            desk = desk_of({"w": show(form)})
            self.answers(desk, [(f"weight w {p}", wanted) for p in primes_of(form)])

    def test_numbers_of_many_figures(self):
        row = f"{THIRTY} -{THIRTY} {THIRTY - 1}"
        wanted = THIRTY ** 2 * 2 + (THIRTY - 1) ** 2
        self.answers(desk_of(KEPT), [(f"worth a {row}", str(wanted))])
        self.assertEqual(len(str(wanted)), 61)

    def test_a_name_kept_anew(self):
        desk = desk_of(KEPT)
        self.answers(desk, [
            ("half a", "4"), ("form a xx + yy + 3zz - xy", "ok"), ("show a", "xx + yy + 3zz - xy"), ("half a", "9"),
            ("alike a form", "yes"), ("names", "a abcdefgh eleven form names zzzzzzzz"), ("form a xx + yy + zz", "ok"),
            ("half a", "4"), ("show form", "xx + yy + 3zz - xy"),
        ])

    def test_names_in_order(self):
        desk = Desk()
        for name, wanted in (("m", "m"), ("z", "m z"), ("a", "a m z"), ("aa", "a aa m z"), ("ab", "a aa ab m z"),
                             ("mm", "a aa ab m mm z"), ("a", "a aa ab m mm z"),
                             ("zzzzzzzz", "a aa ab m mm z zzzzzzzz")):
            self.answers(desk, [(f"form {name} xx + yy + zz", "ok"), ("names", wanted)])

    def test_two_desks_know_nothing_of_one_another(self):
        one, other = Desk(), Desk()
        self.answers(one, [("form a xx + yy + zz", "ok"), ("names", "a")])
        self.answers(other, [("names", "none")])
        with self.assertRaises(NoName):
            other.say("show a")
        self.answers(other, [("form a xx + yy + 3zz - xy", "ok"), ("form b xx + yy + zz", "ok")])
        self.answers(one, [("half a", "4"), ("names", "a")])
        self.answers(Desk(), [("names", "none")])

    def test_asking_changes_nothing(self):
        desk = desk_of(KEPT)
        rows = ["show a", "half a", "worth a 1 2 3", "count a 3", "least names", "alike a form", "turnings a",
                "lines a 5", "beside a 5 0 1 2", "kin names 5", "counts names 5", "led names 5 3", "weight names 5",
                "names"]
        rows += [f"show {name}" for name in KEPT]
        first = [desk.say(row) for row in rows]
        self.assertEqual([desk.say(row) for row in rows], first)
        self.assertEqual(first[-len(KEPT):], list(KEPT.values()))


ROWS = ["show a", "half a", "worth a 1 2 3", "count a 5", "least a", "alike a form", "turnings a", "lines a 3",
        "beside a 3 1 1 1", "kin a 3", "counts a 3", "led a 3 1", "weight a 3", "names"]
NO_NAMES = ["", "A", "Ab", "aB", "a1", "1", "0", "a-b", "a_b", "_", "-a", "abcdefghi", "a" * 9, "a" * 40, "a.", "a,",
            "'a'", "\u00e9", "\u00df", "a\u00e9", "\u0430", "a\n", "\na", "a\t", "\ta", "a\u00a0b", "A" * 8, "a;",
            "a\x00"]
NO_NUMBERS = ["", "+1", "-0", "--1", "- 1", "1-", "00", "01", "-01", "007", "1.0", "1e3", "0x1", "1_0", "one", "a",
              "1,", ",1", "-", "\u0661", "\u00b2", "\uff11", "1\n", "\n1", "1\t", " 1", "1 ", str(THIRTY + 1),
              str(-THIRTY - 1), "0" * 30, "0" * 31, "1" * 31, "None", "True", "1/1", "1\u00a0"]


class Refused(unittest.TestCase):
    def setUp(self):
        self.desk = desk_of(KEPT)

    def state(self, desk):
        told = desk.say("names")
        return told, [desk.say(f"show {name}") for name in told.split(" ") if told != "none"]

    def refused(self, error, row):
        ahead = self.state(self.desk)
        with self.subTest(row=row), self.assertRaises(KinError) as caught:
            self.desk.say(row)
        self.assertIs(type(caught.exception), error, row)
        self.assertEqual(self.state(self.desk), ahead)

    def test_nothing_is_refused_that_is_right(self):
        for row in ROWS:
            self.desk.say(row)

    def test_other_first_words(self):
        for row in ("", " ", "  ", "a", "Show a", "SHOW a", "shown a", "sho a", "keep a xx", "lift a 3 1 1 1",
                    "names a", "name", "Names", "names ", " names", "names names", "paper a 3", "polynomial a",
                    "form", "form ", "half", "shared a 3 1", "book a 3", "sign a 3 1", "formed a xx + yy + zz",
                    "Form a xx + yy + zz", "FORM a xx + yy + zz", "none", "formxx + yy + zz", "names\n", "\nnames",
                    "show\ta", "1 a", "least_worth a", "rows a 1", "quit", "kept", "none a", "ok",
                    "form\ta xx + yy + zz"):
            self.refused(NoRow, row)

    def test_words_too_few_and_too_many(self):
        for row in ROWS:
            words = row.split(" ")
            for many in range(1, len(words)):
                self.refused(NoRow, " ".join(words[:many]))
            for more in ("a", "1", "0", "names", "-1", "x", "xx"):
                self.refused(NoRow, row + " " + more)
            self.refused(NoRow, " ".join(words + words))
        self.refused(NoRow, "form a")
        self.refused(NoRow, "form")

    def test_blanks(self):
        for row in ROWS:
            words = row.split(" ")
            self.refused(NoRow, " " + row)
            self.refused(NoRow, row + " ")
            self.refused(NoRow, row + "\n")
            self.refused(NoRow, "\n" + row)
            for at in range(1, len(words)):
                for gap in ("  ", "\t", "\n", " \t", ",", "", "\u00a0", "   "):
                    self.refused(NoRow, " ".join(words[:at]) + gap + " ".join(words[at:]))
        for row in (" form a xx + yy + zz", "form  a xx + yy + zz", "form\ta xx + yy + zz", "form a\txx",
                    "form a\nxx"):
            self.refused(NoRow, row)

    def test_names_that_are_none(self):
        for name in NO_NAMES:
            for row in ROWS[:-1]:
                words = row.split(" ")
                self.refused(NoRow, " ".join([words[0], name] + words[2:]))
            self.refused(NoRow, f"alike {name} a")
            self.refused(NoRow, f"alike a {name}")
            self.refused(NoRow, f"form {name} xx + yy + zz")
            self.refused(NoRow, f"form {name} no text")

    def test_numbers_written_otherwise(self):
        for number in NO_NUMBERS:
            for row in ("worth a {} 2 3", "worth a 1 {} 3", "worth a 1 2 {}", "count a {}", "lines a {}",
                        "beside a {} 1 1 1", "beside a 3 {} 1 1", "beside a 3 1 {} 1", "beside a 3 1 1 {}",
                        "kin a {}", "counts a {}", "led a {} 1", "led a 3 {}", "weight a {}"):
                self.refused(NoRow, row.format(number))

    def test_numbers_written_right(self):
        for number in ("0", "-1", "10", "-10", str(THIRTY), str(-THIRTY), "9" * 30, "-" + "9" * 30, "1" + "0" * 29):
            self.desk.say(f"worth a {number} {number} 0")

    def test_no_name(self):
        for row in ROWS[:-1]:
            words = row.split(" ")
            for name in ("b", "aa", "abcdefg", "none", "ok"):
                self.refused(NoName, " ".join([words[0], name] + words[2:]))
        for row in ("alike a b", "alike b a", "alike b b", "alike b c"):
            self.refused(NoName, row)

    def test_no_name_behind_no_row(self):
        for row in ("worth b 1 2", "worth b 1 2 03", "count b x", "lines b", "lines b 3 3", "alike b", "alike b 1",
                    "alike b B", "alike B b", "beside b 3 1 1", "led b 3", "led b 3 +1", "weight b -0", "show b ",
                    "show  b"):
            self.refused(NoRow, row)

    def test_no_name_ahead_of_what_the_functions_refuse(self):
        for row in ("count b 601", "count b -1", "lines b 4", "beside b 4 1 1 1", "beside b 3 0 0 0", "kin b 2",
                    "counts b 0", "led b 3 67", "led b 4 67", "weight b 1", "worth b 0 0 0"):
            self.refused(NoName, row)

    def test_what_the_functions_refuse(self):
        for n in (-1, 601, THIRTY, -THIRTY):
            self.refused(NoWorth, f"count a {n}")
            self.refused(NoWorth, f"led a 3 {n}")
        self.refused(NoWorth, "led a 3 67")
        self.refused(NoWorth, "led a 13 4")
        for p in (-3, 0, 1, 2, 4, 9, 17, THIRTY):
            for row in ("lines a {}", "beside a {} 1 1 1", "beside a {} 9 9 9", "kin a {}", "counts a {}",
                        "led a {} 1", "led a {} -1", "weight a {}"):
                self.refused(NoPrime, row.format(p))
        for p in (3, 5, 11):
            self.refused(NoPrime, f"lines {'form' if p == 3 else 'zzzzzzzz' if p == 5 else 'eleven'} {p}")
        for line in ("0 0 0", "1 0 0", "2 2 2", "1 1 4", "-1 1 1", "1 1 0", f"{THIRTY} 1 1"):
            self.refused(NoLine, f"beside a 3 {line}")

    def test_too_great_for_books(self):
        self.desk.say("form g xx + yy + 34zz - xy - xz")
        self.assertEqual(self.desk.say("half g"), "101")
        for name in ("g", "zzzzzzzz", "abcdefgh"):
            for p in (3, 7, 5, 0, -1):
                for row in (f"kin {name} {p}", f"counts {name} {p}", f"led {name} {p} 1", f"led {name} {p} -1",
                            f"weight {name} {p}"):
                    self.refused(TooGreat, row)

    def test_forms_that_are_refused(self):
        texts = ["xx + yy + zz ", " xx + yy + zz", "xx  + yy + zz", "xx+yy+zz", "yy + xx + zz", "1xx + yy + zz", "x",
                 "a", "", "xx + yy + zz xx", "XX", f"{THIRTY + 1}xx + yy + zz", "xx + yy + 0zz", "xx + yy + 02zz",
                 "form a xx", "xx\n"]
        for text in texts:
            self.refused(NoText, f"form a {text}")
            self.refused(NoText, f"form new {text}")
        for text in ("xx", "-xx + yy + zz", "xx + yy", "xx + yy + zz + 2xy", "xy"):
            self.refused(NoForm, f"form a {text}")
            self.refused(NoForm, f"form new {text}")
        for text in ("xx + yy + 67zz + xy", f"{THIRTY}xx + yy + zz"):
            self.refused(TooGreat, f"form a {text}")
            self.refused(TooGreat, f"form new {text}")

    def test_refused_at_an_empty_desk(self):
        self.desk = Desk()
        self.refused(NoName, "show a")
        self.refused(NoForm, "form a xx")
        self.refused(NoText, "form a x")
        self.refused(NoRow, "form A xx + yy + zz")
        self.assertEqual(self.desk.say("names"), "none")


if __name__ == "__main__":
    unittest.main()
