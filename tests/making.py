"""What several tests need: tables, mixings, and a second reckoning with Python's own fractions."""

import itertools
import math
from fractions import Fraction

from mixplay.tables import Table


def told(number):
    """A Fraction as the program tells it."""
    return (number.numerator, number.denominator)


def meant(fraction):
    """What a fraction of the program means, as Python's own."""
    return Fraction(fraction[0], fraction[1])


def plays_of(sizes):
    return list(itertools.product(*[range(size) for size in sizes]))


def drawn_cells(sizes, chance, figures=1):
    cells = {}
    for play in plays_of(sizes):
        cells[play] = [drawn(chance, figures) for size in sizes]
    return cells


def drawn(chance, figures):
    most = 10 ** figures
    return told(Fraction(chance.randint(-most, most), chance.randint(1, most)))


def drawn_table(sizes, chance, figures=1):
    return Table(sizes, drawn_cells(sizes, chance, figures))


def drawn_mixing(size, chance):
    """Some of its chances are 0, but never all."""
    parts = [chance.randint(0, 3) for choice in range(size)]
    parts[chance.randrange(size)] += 1
    return [told(Fraction(part, sum(parts))) for part in parts]


def drawn_mixings(sizes, chance):
    return [drawn_mixing(size, chance) for size in sizes]


def whole(*numbers):
    return [(number, 1) for number in numbers]


def pure(size, choice):
    """The mixing that takes one choice for sure."""
    return [(1 if other == choice else 0, 1) for other in range(size)]


def pennies():
    """The first hand wins where both take the same, the second where they do not."""
    return Table([2, 2], {
        (0, 0): whole(1, -1), (0, 1): whole(-1, 1),
        (1, 0): whole(-1, 1), (1, 1): whole(1, -1),
    })


def trio():
    """Three hands of 2, 1 and 3 choices; what a hand earns tells the play and the hand."""
    cells = {}
    for play in plays_of([2, 1, 3]):
        cells[play] = whole(100 * play[0] + play[2], 10 * play[2] - play[0], play[0] * play[2])
    return Table([2, 1, 3], cells)


def is_fraction(value):
    """Whether a value is a fraction as the program tells them: a tuple in lowest terms, bottom from 1 on."""
    if type(value) is not tuple or [type(part) for part in value] != [int, int]:
        return False
    return value[1] >= 1 and math.gcd(value[0], value[1]) == 1


def drawn_rows(many, wide, chance, top=9, bottom=1, least=None):
    """Rows of fractions with tops from least (else -top) to top and bottoms from 1 to bottom."""
    least = -top if least is None else least
    rows = []
    for row in range(many):
        rows.append([told(Fraction(chance.randint(least, top), chance.randint(1, bottom))) for place in range(wide)])
    return rows


def products(one, other):
    """The sum of the products of two lists of Python's own fractions."""
    return sum((mine * yours for mine, yours in zip(one, other) if mine and yours), Fraction(0))


def meant_row(row):
    return [meant(fraction) for fraction in row]


def column_of(rows, place):
    return [row[place] for row in rows]


def few_table(sizes, chance, least=-2, most=2):
    """A table of few earnings, so that many are alike."""
    return Table(sizes, {play: whole(*[chance.randint(least, most) for size in sizes]) for play in plays_of(sizes)})


def losing_table(rows):
    """The first hand earns these fractions, and the second 0 less what the first earns."""
    cells = {}
    for play in plays_of([len(rows), len(rows[0])]):
        earned = rows[play[0]][play[1]]
        cells[play] = [earned, (-earned[0], earned[1])]
    return Table([len(rows), len(rows[0])], cells)


def two_hands(rows):
    """A table of two hands from rows of pairs of whole numbers."""
    return Table([len(rows), len(rows[0])], {
        (choice, other): whole(*rows[choice][other]) for choice, other in plays_of([len(rows), len(rows[0])])})


def alone(earnings):
    """A table where only the first hand has choices, with these earnings."""
    return Table([len(earnings), 1], {(choice, 0): whole(earned, 0) for choice, earned in enumerate(earnings)})


def dilemma():
    """Both earn more by their choice 1, whatever the other takes."""
    return two_hands([[(2, 2), (0, 3)], [(3, 0), (1, 1)]])


def behind():
    """Choice 2 of the second hand is beaten; behind it the first's choice 1, and behind that the second's choice 0."""
    return two_hands([[(1, 0), (1, 2), (0, 1)], [(0, 3), (0, 1), (2, 0)]])


def daring():
    """Who dares alone earns most, and both lose most where both dare."""
    return two_hands([[(6, 6), (2, 7)], [(7, 2), (0, 0)]])


def drawn_kept(sizes, chance):
    """For each hand some of its choices, one at least, rising."""
    return [sorted(chance.sample(range(size), chance.randint(1, size))) for size in sizes]


def drawn_goal(sizes, chance):
    return [told(Fraction(chance.randint(-6, 6), chance.randint(1, 4))) for size in sizes]


def fits(play, kept):
    """Whether each choice of a play, or of a rest, is a kept one."""
    return all(choice in choices for choice, choices in zip(play, kept))


def changed(play, hand, choice):
    return play[:hand] + (choice,) + play[hand + 1:]


def taken(sizes, kept):
    """The pairs (hand, choice) that are not kept."""
    return [(hand, choice) for hand, size in enumerate(sizes) for choice in range(size) if choice not in kept[hand]]


def spoil(value):
    """Changes every list and dict within a told value."""
    if isinstance(value, (list, tuple)):
        for part in value:
            spoil(part)
    if isinstance(value, dict):
        for part in value.values():
            spoil(part)
        value[(0, 0)] = (77, 1)
        value["more"] = []
    if isinstance(value, list):
        value.reverse()
        value.append((77, 1))
        value[0] = (78, 1)
