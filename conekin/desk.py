"""The desk: keeps forms by names, and answers rows of words with texts."""

from conekin.beside import beside
from conekin.books import book
from conekin.cone import lines
from conekin.errors import NoName, NoRow
from conekin.forms import half, worth
from conekin.least import alike, least
from conekin.led import led
from conekin.rows import how_many
from conekin.shares import weight
from conekin.texts import is_number, read, show
from conekin.turnings import turnings_many

SMALL_LETTERS = "abcdefghijklmnopqrstuvwxyz"
LONGEST_NAME = 8


def answer_show(forms, numbers):
    return show(forms[0])


def answer_half(forms, numbers):
    return str(half(forms[0]))


def answer_worth(forms, numbers):
    return str(worth(forms[0], numbers))


def answer_count(forms, numbers):
    return str(how_many(forms[0], numbers[0]))


def answer_least(forms, numbers):
    return show(least(forms[0])[0])


def answer_alike(forms, numbers):
    return "no" if alike(forms[0], forms[1]) is None else "yes"


def answer_turnings(forms, numbers):
    return str(turnings_many(forms[0]))


def answer_lines(forms, numbers):
    return " ".join([",".join([str(number) for number in line]) for line in lines(forms[0], numbers[0])])


def answer_beside(forms, numbers):
    return show(least(beside(forms[0], numbers[0], numbers[1:])[0])[0])


def answer_kin(forms, numbers):
    kinds = book(forms[0], numbers[0])[0]
    return f"{len(kinds)}; " + ", ".join([show(kind) for kind in kinds])


def answer_counts(forms, numbers):
    counts = book(forms[0], numbers[0])[1]
    return "; ".join([" ".join([str(number) for number in row]) for row in counts])


def answer_led(forms, numbers):
    return str(led(forms[0], numbers[0], numbers[1]))


def answer_weight(forms, numbers):
    top, bottom = weight(forms[0], numbers[0])
    return str(top) if bottom == 1 else f"{top}/{bottom}"


# Behind the first word of a row stand so many names, then so many numbers.
SHAPES = {
    "show": (1, 0), "half": (1, 0), "worth": (1, 3), "count": (1, 1), "least": (1, 0), "alike": (2, 0),
    "turnings": (1, 0), "lines": (1, 1), "beside": (1, 4), "kin": (1, 1), "counts": (1, 1), "led": (1, 2),
    "weight": (1, 1),
}

ANSWERS = {
    "show": answer_show, "half": answer_half, "worth": answer_worth, "count": answer_count, "least": answer_least,
    "alike": answer_alike, "turnings": answer_turnings, "lines": answer_lines, "beside": answer_beside,
    "kin": answer_kin, "counts": answer_counts, "led": answer_led, "weight": answer_weight,
}


def is_name(word):
    """Whether a word is one to eight small letters."""
    return 1 <= len(word) <= LONGEST_NAME and all(letter in SMALL_LETTERS for letter in word)


def name_and_text(row):
    """The name and the text of a row that keeps a form [NoRow]."""
    word, blank, behind = row.partition(" ")
    name, gap, text = behind.partition(" ")
    if not is_name(name) or gap == "":
        raise NoRow("a name and a text are wanted")
    return name, text


def names_and_numbers(row):
    """The names and the numbers of a row that asks [NoRow]."""
    first, *words = row.split(" ")
    if first not in SHAPES:
        raise NoRow("no row begins so")
    many_names, many_numbers = SHAPES[first]
    names, figures = words[:many_names], words[many_names:]
    if len(words) != many_names + many_numbers or not all(is_name(word) for word in names):
        raise NoRow("other words are wanted")
    if not all(is_number(word) for word in figures):
        raise NoRow("this number is not written so")
    return names, [int(word) for word in figures]


class Desk:
    """Forms kept by names, at first none."""

    def __init__(self):
        self.kept = {}

    def say(self, row):
        """The answer to a row [NoRow, NoName, and what the functions refuse]."""
        if row == "names":
            return " ".join(sorted(self.kept)) if self.kept else "none"
        if row.startswith("form "):
            name, text = name_and_text(row)
            self.kept[name] = read(text)
            return "ok"
        names, numbers = names_and_numbers(row)
        answer = ANSWERS[row.split(" ")[0]]
        return answer(self.named(names), numbers)

    def named(self, names):
        """The forms kept under the names [NoName]."""
        if not all(name in self.kept for name in names):
            raise NoName("nothing is kept under this name")
        return [self.kept[name] for name in names]
