"""What several tests need: tables, mixings, and a second reckoning with Python's own fractions."""

import itertools
import math
from fractions import Fraction

from mixplay.tables import Table


def told(number):
    """A Fraction as the program tells it."""
    return (number.numerator, number.denominator)


def meant(fraction):
    """What a fraction of the program means, as Python's own."""
    return Fraction(fraction[0], fraction[1])


def plays_of(sizes):
    return list(itertools.product(*[range(size) for size in sizes]))


def drawn_cells(sizes, chance, figures=1):
    cells = {}
    for play in plays_of(sizes):
        cells[play] = [drawn(chance, figures) for size in sizes]
    return cells


def drawn(chance, figures):
    most = 10 ** figures
    return told(Fraction(chance.randint(-most, most), chance.randint(1, most)))


def drawn_table(sizes, chance, figures=1):
    return Table(sizes, drawn_cells(sizes, chance, figures))


def drawn_mixing(size, chance):
    """Some of its chances are 0, but never all."""
    parts = [chance.randint(0, 3) for choice in range(size)]
    parts[chance.randrange(size)] += 1
    return [told(Fraction(part, sum(parts))) for part in parts]


def drawn_mixings(sizes, chance):
    return [drawn_mixing(size, chance) for size in sizes]


def whole(*numbers):
    return [(number, 1) for number in numbers]


def pure(size, choice):
    """The mixing that takes one choice for sure."""
    return [(1 if other == choice else 0, 1) for other in range(size)]


def pennies():
    """The first hand wins where both take the same, the second where they do not."""
    return Table([2, 2], {
        (0, 0): whole(1, -1), (0, 1): whole(-1, 1),
        (1, 0): whole(-1, 1), (1, 1): whole(1, -1),
    })


def trio():
    """Three hands of 2, 1 and 3 choices; what a hand earns tells the play and the hand."""
    cells = {}
    for play in plays_of([2, 1, 3]):
        cells[play] = whole(100 * play[0] + play[2], 10 * play[2] - play[0], play[0] * play[2])
    return Table([2, 1, 3], cells)


def is_fraction(value):
    """Whether a value is a fraction as the program tells them: a tuple in lowest terms, bottom from 1 on."""
    if type(value) is not tuple or [type(part) for part in value] != [int, int]:
        return False
    return value[1] >= 1 and math.gcd(value[0], value[1]) == 1


def drawn_rows(many, wide, chance, top=9, bottom=1, least=None):
    """Rows of fractions with tops from least (else -top) to top and bottoms from 1 to bottom."""
    least = -top if least is None else least
    rows = []
    for row in range(many):
        rows.append([told(Fraction(chance.randint(least, top), chance.randint(1, bottom))) for place in range(wide)])
    return rows


def products(one, other):
    """The sum of the products of two lists of Python's own fractions."""
    return sum((mine * yours for mine, yours in zip(one, other) if mine and yours), Fraction(0))


def meant_row(row):
    return [meant(fraction) for fraction in row]


def column_of(rows, place):
    return [row[place] for row in rows]
