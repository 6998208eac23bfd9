"""Point 33: forms written as texts, and read."""

import random
import re
import unittest

from conekin.errors import NoForm, NoText, TooGreat
from conekin.texts import read, show
from tests import samples
from tests.samples import NEAR_FORMS, THIRTY, even_table

SQUARES = even_table(2, 2, 2, 0, 0, 0)
TOO_GREAT = even_table(2, 2, 134, 1, 0, 0)
NO_FORM = even_table(2, 2, 2, -1, -1, -1)
LETTERS = ("xx", "yy", "zz", "xy", "xz", "yz")

WRITTEN = [
    ("xx + yy + zz", even_table(2, 2, 2, 0, 0, 0)), ("xx + yy + 3zz - xy", even_table(2, 2, 6, -1, 0, 0)),
    ("xx + yy + zz + xy + xz + yz", even_table(2, 2, 2, 1, 1, 1)),
    ("xx + 2yy + 3zz + xy - xz", even_table(2, 4, 6, 1, -1, 0)),
    ("2xx + 3yy + 4zz - xy + xz + 2yz", even_table(4, 6, 8, -1, 1, 2)),
    ("xx + yy + 50zz", even_table(2, 2, 100, 0, 0, 0)),
    ("3xx + yy + zz - yz", even_table(6, 2, 2, 0, 0, -1)), ("xx + 31yy + 3zz + 11xy", even_table(2, 62, 6, 11, 0, 0)),
    ("10xx + yy + zz - 6xy", even_table(20, 2, 2, -6, 0, 0)),
]


def plain_show(form):
    """A term for each number, then what is not written so is put right."""
    numbers = [form[0][0] // 2, form[1][1] // 2, form[2][2] // 2, form[0][1], form[0][2], form[1][2]]
    told = " ".join(f"{number:+d}{letters}" for number, letters in zip(numbers, LETTERS) if number)
    told = re.sub(r"(?<![0-9])1(?=[xyz])", "", told).replace(" +", " + ").replace(" -", " - ")
    return told.removeprefix("+")


def plain_is_text(text):
    """As point 33 says, by one pattern for each term."""
    number = r"([2-9]|[1-9][0-9]{1,29})?"
    left = text
    if not re.fullmatch(r"[ -~]*", text):
        return False
    first = True
    for letters in LETTERS:
        ahead = r"-?" if first else r" [+-] "
        found = re.match(ahead + number + letters, left)
        if found:
            left, first = left[found.end():], False
    return left == "" and not first


class Show(unittest.TestCase):
    def test_by_hand(self):
        for text, form in WRITTEN:
            self.assertEqual(show(form), text)

    def test_all_terms(self):
        for form in NEAR_FORMS:
            for basis in [samples.ONE] + samples.bases(1) + samples.far_bases(form):
                far = samples.plain_carried(form, basis)
                told = show(far)
                self.assertIs(type(told), str)
                self.assertEqual(told, plain_show(far))
                self.assertTrue(plain_is_text(told))

    def test_refused(self):
        for thing in samples.any_things() + samples.wrong_shapes(TOO_GREAT) + [NO_FORM, samples.NOUGHT, samples.ONE]:
            with self.assertRaises(NoForm):
                show(thing)
        for form in (TOO_GREAT, samples.plain_carried(TOO_GREAT, samples.far_bases(TOO_GREAT)[-1])):
            with self.assertRaises(TooGreat):
                show(form)
        show(even_table(2, 2, 100, 0, 0, 0))


class Read(unittest.TestCase):
    def refused(self, error, text):
        with self.subTest(text=text), self.assertRaises(error) as caught:
            read(text)
        self.assertIs(type(caught.exception), error)

    def test_by_hand(self):
        for text, form in WRITTEN:
            told = read(text)
            self.assertEqual(told, form)
            self.assertEqual({type(number) for row in told for number in row}, {int})

    def test_shown_and_read_again(self):
        for form in NEAR_FORMS:
            for basis in [samples.ONE] + samples.bases(1) + samples.far_bases(form):
                far = samples.plain_carried(form, basis)
                self.assertEqual(read(show(far)), far)

    def test_many_small_texts(self):
        source = random.Random(33)
        for text in [plain_show(form) for half in range(2, 60, 7) for form in samples.small_forms(half)]:
            self.assertEqual(show(read(text)), text)
            for step in range(40):
                self.judged(source, text)

    def judged(self, source, text):
        """A text with something changed: read only where it is written so still."""
        at, more = source.randrange(len(text) + 1), source.choice(["x", "y", "z", " ", "+", "-", "0", "1", "2", "xx"])
        ahead, behind = text[:at], text[at + 1:]
        other = source.choice([ahead + more + text[at:], ahead + behind, ahead + more + behind])
        if plain_is_text(other):
            try:
                self.assertEqual(plain_show(read(other)), other)
            except (NoForm, TooGreat):
                pass
        else:
            self.refused(NoText, other)

    def test_order_of_the_terms(self):
        for text in ("yy + xx + zz", "xx + zz + yy", "xx + xy + yy + zz", "xx + yy + xy + zz",
                     "xx + yy + zz + xz + xy", "xx + yy + zz + yz + xz", "xy + xx + yy + zz", "xx + xx + yy + zz",
                     "xx + yy + zz + xy + xy", "xx + yy + zz + xy - xy", "zz + yy + xx"):
            self.refused(NoText, text)

    def test_numbers(self):
        for number in ("1", "0", "00", "01", "02", "007", "+2", "-2", "--2", "2.0", "2 ", " 2", "1e1", "0x2", "2_0",
                       "1_000", "\u0662", "\u00b2", "\uff12", "a", "x", "2,", "10 ", "1" * 31, "9" * 31, "9" * 40,
                       "0" * 30):
            self.refused(NoText, f"{number}xx + yy + zz" if number != "-2" else "xx + -2yy + zz")
            self.refused(NoText, f"xx + {number}yy + zz")
            self.refused(NoText, f"xx + yy + {number}zz")
            self.refused(NoText, f"xx + yy + zz - {number}xy")
            self.refused(NoText, f"xx + yy + zz + {number}yz")

    def test_thirty_figures(self):
        self.refused(TooGreat, f"{THIRTY}xx + yy + zz")
        self.refused(TooGreat, f"xx + yy + {THIRTY}zz")
        self.refused(NoForm, f"xx + yy + zz - {THIRTY}xy")
        self.refused(NoForm, f"-{THIRTY}xx + yy + zz")
        self.refused(NoText, f"{THIRTY + 1}xx + yy + zz")
        self.refused(NoText, f"-{THIRTY + 1}xx + yy + zz")
        self.refused(NoText, f"xx + yy + zz - {THIRTY + 1}xy")
        # xx + nxy + yy by a row moved on: (x + ky) squared, and yy, and zz.
        k = (10 ** 15 - 2) // 2
        self.assertEqual(read(f"xx + {k * k + 1}yy + zz + {2 * k}xy"), even_table(2, 2 * (k * k + 1), 2, 2 * k, 0, 0))
        k = 10 ** 15 - 1
        self.assertEqual(len(str(k * k + 1)), 30)
        self.assertEqual(read(f"xx + {k * k + 1}yy + zz + {2 * k}xy"), even_table(2, 2 * (k * k + 1), 2, 2 * k, 0, 0))

    def test_blanks_and_signs(self):
        for text in ("", " ", "  ", " xx + yy + zz", "xx + yy + zz ", "xx  + yy + zz", "xx +  yy + zz", "xx+ yy + zz",
                     "xx +yy + zz", "xx+yy+zz", "xx + yy + zz +", "xx + yy + zz + ", "+ xx + yy + zz",
                     "+xx + yy + zz", "- xx + yy + zz", "xx - - yy + zz", "xx + + yy + zz", "xx +- yy + zz",
                     "xx + -yy + zz", "--xx + yy + zz", "xx + yy zz", "xx yy zz", "xx, yy, zz", "xx * yy + zz",
                     "xx\t+ yy + zz", "xx + yy + zz\n", "\nxx + yy + zz", "xx + yy\n+ zz", "xx + yy +\u00a0zz", "-",
                     "+", "xx +", "xx -", "-+xx", "xx + yy + zz -xy", "xx +"):
            self.refused(NoText, text)

    def test_letters(self):
        for text in ("x + y + z", "XX + YY + ZZ", "xx + yy + zz + yx", "xx + yy + zz - zx", "xx + yy + zz + zy",
                     "x*x + yy + zz", "x2 + y2 + z2", "xx + yy + zz + x", "xxx + yy + zz", "xx + yy + zz + xyz",
                     "aa + bb + cc", "xx + yy + zz + 5", "5", "0", "2", "xx2 + yy + zz", "2x2x + yy + zz", "ww + xx",
                     "x x + yy + zz", "xx + yy + zz + 3 xy", "x", "xx + y", "xx + yy + zz + 2", "form", "None",
                     "xx + yy + zz;", "(xx + yy + zz)", "2(xx + yy + zz)"):
            self.refused(NoText, text)

    def test_no_form(self):
        for text in ("xx", "yy", "zz", "xy", "xz", "yz", "-xx", "-xy", "xx + yy", "xx + zz", "yy + zz",
                     "-xx + yy + zz", "xx - yy + zz", "xx + yy - zz", "-xx - yy - zz", "xx + yy + zz + 2xy",
                     "xx + yy + zz - 2yz", "xx + yy + zz - xy - xz - yz", "-2xx + 300yy + 500zz", "xy + xz + yz",
                     "-5yz", "xx + yy + 5xy", "2xx - 2xy"):
            self.refused(NoForm, text)

    def test_too_great(self):
        for text in ("xx + yy + 67zz + xy", "xx + yy + 51zz", "100xx + 100yy + 100zz", "xx + yy + 1000zz"):
            self.refused(TooGreat, text)
        self.assertEqual(read("xx + yy + 50zz"), even_table(2, 2, 100, 0, 0, 0))
        self.assertEqual(read("xx + yy + 66zz + xy"), even_table(2, 2, 132, 1, 0, 0))

    def test_each_reading_is_the_askers_own(self):
        told = read("xx + yy + zz")
        samples.spoil(told)
        self.assertEqual(read("xx + yy + zz"), SQUARES)


if __name__ == "__main__":
    unittest.main()
