"""What several tests share: tables to ask of, and a plain second way to reckon the answers."""

import copy
import random
import signal
from contextlib import contextmanager
from fractions import Fraction
from itertools import permutations, product
from math import isqrt

ONE = [[1, 0, 0], [0, 1, 0], [0, 0, 1]]
NOUGHT = [[0, 0, 0], [0, 0, 0], [0, 0, 0]]
THIRTY = 10 ** 30 - 1

# The form of half determinant 2: no form has a lesser one.
LEAST_HALF = [[2, 1, 1], [1, 2, 1], [1, 1, 2]]


def any_things():
    """Things of the kinds that point 2 names as any thing, none of which is a table."""
    deep = [0]
    for step in range(7):
        deep = [deep]
    return [
        0, 1, -1, 2, 3, THIRTY, -THIRTY, True, False, None, "", "abc", "222", "x" * 30,
        [], (), [[]], [[], [], []], [0], [0, 0, 0], [2, 2, 2], (2, 2, 2), [None, None, None],
        ["abc", "abc", "abc"], ["", "", ""], "[[2, 0, 0], [0, 2, 0], [0, 0, 2]]",
        [[None] * 3] * 3, [["2", "0", "0"], ["0", "2", "0"], ["0", "0", "2"]],
        [[[2], [0], [0]], [[0], [2], [0]], [[0], [0], [2]]], [True, True, True],
        deep, [deep, deep, deep], (None, [True, ("a", [2])]),
        [[2, 0, 0], None, [0, 0, 2]], [[2, 0, 0], 5, [0, 0, 2]], [[2, 0, 0], "abc", [0, 0, 2]],
        [[2, 0, 0], [0, 2, None], [0, None, 2]], [[2, 0, 0], [0, 2, ""], [0, "", 2]],
    ]


def wrong_shapes(form):
    """Things made of a form that are no tables."""
    a, b, c = copy.deepcopy(form)
    return [
        (a, b, c), [tuple(a), b, c], [a, b, tuple(c)], [tuple(a), tuple(b), tuple(c)],
        [a, b], [a, b, c, a], [a, b, c, [0, 0, 0]], [a[:2], b[:2]], [a[:2], b[:2], c[:2]],
        [a[:2], b, c], [a, b, c[:2]], [a + [0], b, c], [a, b, c + [0]],
        [a + [0], b + [0], c + [0]], [a + [0], b + [0], c + [0], [0, 0, 0, 2]],
        [a, b, []], [a, b, None], [a, b, 0], a, [form], [[form]], (form,),
    ]


def table_of(source, bound):
    return [[source.randint(-bound, bound) for j in range(3)] for i in range(3)]


def even_table_of(source, bound):
    """A table that is its own turned over one, with even numbers on the diagonal."""
    table = table_of(source, bound)
    for i in range(3):
        table[i][i] -= table[i][i] % 2
        for j in range(i):
            table[i][j] = table[j][i]
    return table


def tables(many=40):
    """Tables of small numbers, and of numbers of up to thirty figures either way."""
    source = random.Random(4)
    told = [table_of(source, bound) for bound in (1, 3, 1000, 10 ** 15, THIRTY) for step in range(many)]
    edges = [ONE, NOUGHT, LEAST_HALF, [[1, 2, 3], [4, 5, 6], [7, 8, 9]], [[THIRTY] * 3 for i in range(3)]]
    edges.append([[THIRTY, -THIRTY, THIRTY], [-THIRTY, -THIRTY, THIRTY], [THIRTY, THIRTY, -THIRTY]])
    return told + copy.deepcopy(edges)


def bases(bound, steps=12, many=30):
    """Tables of determinant 1 and -1, by exchanging rows, turning signs and adding multiples of rows."""
    source = random.Random(bound)
    told = []
    for number in range(many):
        basis = copy.deepcopy(ONE)
        for step in range(steps):
            i, j = source.sample(range(3), 2)
            times = source.randint(-bound, bound)
            basis[i] = [x + times * y for x, y in zip(basis[i], basis[j])]
        if number % 2:
            basis[i] = [-x for x in basis[i]]
        if number % 3:
            basis[i], basis[j] = basis[j], basis[i]
        told.append(basis)
    return told


def even_table(a, b, c, d, e, f):
    """The table of the numbers in the order of point 11."""
    return [[a, d, e], [d, b, f], [e, f, c]]


def order_list(form):
    """The numbers of a form in the order of point 11."""
    return [form[0][0], form[1][1], form[2][2], form[0][1], form[0][2], form[1][2]]


# Near forms of half determinants from 2 to 200, of many turnings and of few, round ones and flat ones; the second one
# is the sum of three squares.
NEAR_FORMS = [
    LEAST_HALF, even_table(2, 2, 2, 0, 0, 0), even_table(2, 2, 2, 1, 0, 0), even_table(2, 4, 6, 1, -1, 0),
    even_table(2, 2, 6, -1, 0, 0), even_table(4, 4, 4, 2, 2, 2), even_table(4, 6, 8, -1, 1, 2),
    even_table(6, 6, 6, 2, -2, 1), even_table(8, 8, 8, 4, 3, 4), even_table(2, 2, 100, 0, 0, 0),
    even_table(2, 2, 132, 1, 0, 0), even_table(2, 14, 16, 1, 1, 7),
]


# Forms of half determinants to 100 whose books have one kind, some, or seven. Of those of the half determinants 27, 64
# and 81 the one prime reaches kinds that another one doesn't.
BOOKED_FORMS = [
    even_table(2, 2, 2, 0, 0, 0), LEAST_HALF, even_table(2, 4, 6, 1, -1, 0), even_table(2, 2, 18, -1, 0, 0),
    even_table(2, 2, 32, -1, -1, 0), even_table(4, 4, 10, 0, -2, -2), even_table(2, 4, 18, 0, 0, -1),
    even_table(2, 2, 54, -1, 0, 0), even_table(2, 6, 14, 0, -1, 0), even_table(2, 2, 66, 1, 0, 0),
    even_table(2, 2, 50, 0, 0, 0),
]


def small_forms(half):
    """All tables of a half determinant that are as point 13 says of least forms: each least form is one of them."""
    for a, b in product(range(2, 2 * half + 1, 2), repeat=2):
        if a <= b and a * b * b <= 4 * half:
            for d, e, f in product(range(-a // 2, a // 2 + 1), range(-a // 2, a // 2 + 1), range(-b // 2, b // 2 + 1)):
                c, left = divmod(2 * half + a * f * f - 2 * d * e * f + b * e * e, a * b - d * d)
                if left == 0 and c % 2 == 0 and c >= b and a * b * c <= 4 * half:
                    yield even_table(a, b, c, d, e, f)


PRIMES = (3, 5, 7, 11, 13)


def primes_of(form):
    return [p for p in PRIMES if plain_determinant(form) // 2 % p]


def no_primes():
    """Things that are primes of no form."""
    told = [0, 1, 2, 4, 6, 8, 9, 10, 12, 14, 15, 17, 19, 23, 26, 169, -3, -5, -13, THIRTY]
    return told + [True, False, None, "", "3", "7", [], [3], (), (3,), [[7]]] + any_things()[6:]


def far_bases(form):
    """Bases that carry a form to one of great numbers, none of more than thirty figures."""
    told = bases(9, steps=8) + bases(200, steps=8) + bases(5000, steps=8) + slanted_bases() + grown_bases(form)
    return [basis for basis in told if is_within_thirty(plain_carried(form, basis))]


def is_within_thirty(table):
    return max(abs(number) for row in table for number in row) <= THIRTY


def slanted_bases():
    """Bases with few great numbers in them."""
    many, more = 10 ** 13 + 7, 3 * 10 ** 6 + 1
    told = [[[1, 0, 0], [0, 1, 0], [many, -many, 1]], [[1, many, 0], [0, 1, 0], [0, 0, -1]]]
    return told + [[[1, 0, 0], [more, 1, 0], [more, more, 1]], [[0, 0, 1], [0, -1, more], [1, more, more ** 2]]]


def grown_bases(form):
    """Powers of bases, each the last one that carries the form to numbers of thirty figures."""
    starts = [[[0, 1, 0], [0, 0, 1], [1, 1, 1]], [[0, 1, 0], [0, 0, 1], [1, 0, -1]]]
    starts += [[[0, -1, 1], [1, 0, 0], [-1, 1, 0]], [[2, 2, -1], [1, 0, -1], [-1, -1, 1]]]
    told = []
    for start in starts:
        basis, grown = ONE, start
        while is_within_thirty(plain_carried(form, grown)):
            basis, grown = grown, plain_product(start, grown)
        told.append(basis)
    return told


@contextmanager
def in_time(seconds):
    """Fails what is asked within it where it goes on for longer, as going through a great box would."""
    def out_of_time(number, frame):
        raise AssertionError(f"not done within {seconds} seconds")

    before = signal.signal(signal.SIGALRM, out_of_time)
    signal.alarm(seconds)
    try:
        yield
    finally:
        signal.alarm(0)
        signal.signal(signal.SIGALRM, before)


def lists_in(thing):
    """Each list in a thing, once for each place where it stands."""
    told = [thing] if isinstance(thing, list) else []
    if isinstance(thing, (list, tuple)):
        for one in thing:
            told += lists_in(one)
    return told


def spoil(thing):
    """Changes all that can be changed in a thing."""
    for one in lists_in(thing):
        one.reverse()
        one.append(77)
        one[0] = None


def plain_product(one, other):
    told = copy.deepcopy(NOUGHT)
    for i in range(3):
        for j in range(3):
            for k in range(3):
                told[i][j] += one[i][k] * other[k][j]
    return told


def plain_turned(table):
    return [list(column) for column in zip(*table)]


def plain_carried(table, by):
    return plain_product(plain_product(by, table), plain_turned(by))


def plain_determinant(table):
    """By all orders of the columns."""
    total = 0
    for order in permutations(range(3)):
        exchanged = sum(order[i] > order[j] for i in range(3) for j in range(i + 1, 3))
        total += (-1) ** exchanged * table[0][order[0]] * table[1][order[1]] * table[2][order[2]]
    return total


def plain_pairing(table, one, other):
    total = 0
    for i in range(3):
        for j in range(3):
            total += one[i] * table[i][j] * other[j]
    return total


def plain_worth(table, row):
    return plain_pairing(table, row, row) // 2


def plain_by_basis(row, basis):
    """The row that is told by numbers of times the rows of a basis."""
    return [sum(row[k] * basis[k][j] for k in range(3)) for j in range(3)]


def plain_back(basis):
    """The back of a basis, by all minors written out."""
    (a, b, c), (d, e, f), (g, h, i) = basis
    unit = plain_determinant(basis)
    told = [[e * i - f * h, c * h - b * i, b * f - c * e], [f * g - d * i, a * i - c * g, c * d - a * f],
            [d * h - e * g, b * g - a * h, a * e - b * d]]
    return [[unit * number for number in row] for row in told]


def plain_rows(form, n):
    """All rows of each worth from 0 to n, by going through the box in which they lie."""
    (a, d, e), (_, b, f), (_, _, c) = form
    whole = plain_determinant(form)
    bounds = [isqrt(2 * n * corner // whole) for corner in (b * c - f * f, a * c - e * e, a * b - d * d)]
    told = [[] for worth in range(n + 1)]
    for x, y, z in product(*[range(-bound, bound + 1) for bound in bounds]):
        worth = (a * x * x + b * y * y + c * z * z) // 2 + d * x * y + e * x * z + f * y * z
        if worth <= n:
            told[worth].append([x, y, z])
    return told


def plain_least(form):
    """The least list of point 11, by going through the bases made of rows of worths to a quarter of the determinant.

    Point 13 says that the diagonal of a least form rises, its product being at most twice the determinant; as the
    first two numbers are 2 at least, the third one is at most half of the determinant.
    """
    told = plain_rows(form, plain_determinant(form) // 4)
    rows = [(2 * worth, row) for worth in range(1, len(told)) for row in told[worth]]
    best = [len(rows) ** 9] * 6
    for a, (x, y, z) in rows:
        if a > best[0]:
            break
        for b, other in rows:
            if [a, b] > best[:2]:
                break
            u, v, w = other
            i, j, k = y * w - z * v, z * u - x * w, x * v - y * u
            for c, third in rows:
                if [a, b, c] > best[:3]:
                    break
                if i * third[0] + j * third[1] + k * third[2] in (1, -1):
                    mixed = plain_pairing(form, [x, y, z], other)
                    far = plain_pairing(form, [x, y, z], third)
                    best = min(best, [a, b, c, mixed, far, plain_pairing(form, other, third)])
    return best


def plain_lines(form, p):
    """By going through all rows of numbers from 0 to p - 1."""
    told = []
    for row in product(range(p), repeat=3):
        others = [number for number in row if number]
        if others and others[0] == 1 and plain_worth(form, row) % p == 0:
            told.append(list(row))
    return told


def plain_lift(form, p, line):
    """By going through all rows of numbers from 0 to p p - 1 that are the line but for multiples of p."""
    for row in product(*[range(number, p * p, p) for number in line]):
        if plain_worth(form, row) % (p * p) == 0:
            return list(row)


def plain_is_good(form, p, line, lifted, row):
    """As point 18 says, by going through the numbers of times the line."""
    times = [k for k in range(p) if all((y - k * x) % p == 0 for x, y in zip(line, row))]
    return bool(times) and plain_pairing(form, lifted, row) % (p * p) == 0


def plain_is_step(form, p, line, table):
    lifted = plain_lift(form, p, line)
    good = all(plain_is_good(form, p, line, lifted, row) for row in table)
    return good and plain_determinant(table) in (p ** 3, -p ** 3)


def plain_made(form, p, step):
    """The form carried by a step, each number divided by p p, or None where one is not divided."""
    told = plain_carried(form, step)
    if any(number % (p * p) for row in told for number in row):
        return None
    return [[number // (p * p) for number in row] for row in told]


def plain_sign(form, p, n):
    """As point 25 says, by going through the squares."""
    if n % p == 0:
        return 0
    squares = {number * number % p for number in range(p)}
    return 1 if -n * (plain_determinant(form) // 2) % p in squares else -1


def plain_is_form(table):
    even = table == plain_turned(table) and all(table[i][i] % 2 == 0 for i in range(3))
    return even and gives_above_nought(table)


def gives_above_nought(table):
    """Whether each row but that of noughts gets a worth above 0: squares split off, the last letter first."""
    left = [[Fraction(number) for number in row] for row in table]
    while left:
        last = left.pop()
        corner = last.pop()
        if corner <= 0:
            return False
        for i, row in enumerate(left):
            factor = row.pop() / corner
            for j in range(len(row)):
                row[j] -= factor * last[j]
    return True
