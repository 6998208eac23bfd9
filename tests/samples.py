"""What several tests share: tables to ask of, and a plain second way to reckon the answers."""

import copy
import random
from fractions import Fraction
from itertools import permutations

ONE = [[1, 0, 0], [0, 1, 0], [0, 0, 1]]
NOUGHT = [[0, 0, 0], [0, 0, 0], [0, 0, 0]]
THIRTY = 10 ** 30 - 1

# The form of half determinant 2: no form has a lesser one.
LEAST_HALF = [[2, 1, 1], [1, 2, 1], [1, 1, 2]]


def any_things():
    """Things of the kinds that point 2 names as any thing, none of which is a table."""
    deep = [0]
    for step in range(7):
        deep = [deep]
    return [
        0, 1, -1, 2, 3, THIRTY, -THIRTY, True, False, None, "", "abc", "222", "x" * 30,
        [], (), [[]], [[], [], []], [0], [0, 0, 0], [2, 2, 2], (2, 2, 2), [None, None, None],
        ["abc", "abc", "abc"], ["", "", ""], "[[2, 0, 0], [0, 2, 0], [0, 0, 2]]",
        [[None] * 3] * 3, [["2", "0", "0"], ["0", "2", "0"], ["0", "0", "2"]],
        [[[2], [0], [0]], [[0], [2], [0]], [[0], [0], [2]]], [True, True, True],
        deep, [deep, deep, deep], (None, [True, ("a", [2])]),
        [[2, 0, 0], None, [0, 0, 2]], [[2, 0, 0], 5, [0, 0, 2]], [[2, 0, 0], "abc", [0, 0, 2]],
        [[2, 0, 0], [0, 2, None], [0, None, 2]], [[2, 0, 0], [0, 2, ""], [0, "", 2]],
    ]


def wrong_shapes(form):
    """Things made of a form that are no tables."""
    a, b, c = copy.deepcopy(form)
    return [
        (a, b, c), [tuple(a), b, c], [a, b, tuple(c)], [tuple(a), tuple(b), tuple(c)],
        [a, b], [a, b, c, a], [a, b, c, [0, 0, 0]], [a[:2], b[:2]], [a[:2], b[:2], c[:2]],
        [a[:2], b, c], [a, b, c[:2]], [a + [0], b, c], [a, b, c + [0]],
        [a + [0], b + [0], c + [0]], [a + [0], b + [0], c + [0], [0, 0, 0, 2]],
        [a, b, []], [a, b, None], [a, b, 0], a, [form], [[form]], (form,),
    ]


def table_of(source, bound):
    return [[source.randint(-bound, bound) for j in range(3)] for i in range(3)]


def even_table_of(source, bound):
    """A table that is its own turned over one, with even numbers on the diagonal."""
    table = table_of(source, bound)
    for i in range(3):
        table[i][i] -= table[i][i] % 2
        for j in range(i):
            table[i][j] = table[j][i]
    return table


def tables(many=40):
    """Tables of small numbers, and of numbers of up to thirty figures either way."""
    source = random.Random(4)
    told = [table_of(source, bound) for bound in (1, 3, 1000, 10 ** 15, THIRTY) for step in range(many)]
    edges = [ONE, NOUGHT, LEAST_HALF, [[1, 2, 3], [4, 5, 6], [7, 8, 9]], [[THIRTY] * 3 for i in range(3)]]
    edges.append([[THIRTY, -THIRTY, THIRTY], [-THIRTY, -THIRTY, THIRTY], [THIRTY, THIRTY, -THIRTY]])
    return told + copy.deepcopy(edges)


def bases(bound, steps=12, many=30):
    """Tables of determinant 1 and -1, by exchanging rows, turning signs and adding multiples of rows."""
    source = random.Random(bound)
    told = []
    for number in range(many):
        basis = copy.deepcopy(ONE)
        for step in range(steps):
            i, j = source.sample(range(3), 2)
            times = source.randint(-bound, bound)
            basis[i] = [x + times * y for x, y in zip(basis[i], basis[j])]
        if number % 2:
            basis[i] = [-x for x in basis[i]]
        if number % 3:
            basis[i], basis[j] = basis[j], basis[i]
        told.append(basis)
    return told


def plain_product(one, other):
    told = copy.deepcopy(NOUGHT)
    for i in range(3):
        for j in range(3):
            for k in range(3):
                told[i][j] += one[i][k] * other[k][j]
    return told


def plain_turned(table):
    return [list(column) for column in zip(*table)]


def plain_carried(table, by):
    return plain_product(plain_product(by, table), plain_turned(by))


def plain_determinant(table):
    """By all orders of the columns."""
    total = 0
    for order in permutations(range(3)):
        exchanged = sum(order[i] > order[j] for i in range(3) for j in range(i + 1, 3))
        total += (-1) ** exchanged * table[0][order[0]] * table[1][order[1]] * table[2][order[2]]
    return total


def plain_pairing(table, one, other):
    total = 0
    for i in range(3):
        for j in range(3):
            total += one[i] * table[i][j] * other[j]
    return total


def gives_above_nought(table):
    """Whether each row but that of noughts gets a worth above 0: squares split off, the last letter first."""
    left = [[Fraction(number) for number in row] for row in table]
    while left:
        last = left.pop()
        corner = last.pop()
        if corner <= 0:
            return False
        for i, row in enumerate(left):
            factor = row.pop() / corner
            for j in range(len(row)):
                row[j] -= factor * last[j]
    return True
