"""Fractions: tuples (top, bottom) of whole numbers in lowest terms, bottom from 1 on."""

from mixplay.errors import NoNumber


def divisor(one, other):
    great = abs(one)
    small = abs(other)
    while small != 0:
        left = great % small
        great = small
        small = left
    return great


def ratio(top, bottom):
    if bottom == 0:
        raise NoNumber("nothing is divided by 0")
    shared = divisor(top, bottom)
    # The sign goes along with the divisor, so that the bottom comes out above 0.
    if bottom < 0:
        shared = -shared
    return (top // shared, bottom // shared)


def plus(one, other):
    return ratio(one[0] * other[1] + other[0] * one[1], one[1] * other[1])


def minus(one, other):
    return ratio(one[0] * other[1] - other[0] * one[1], one[1] * other[1])


def times(one, other):
    return ratio(one[0] * other[0], one[1] * other[1])


def over(one, other):
    return ratio(one[0] * other[1], one[1] * other[0])


def below(one, other):
    # Bottoms are above 0, so that crossing them turns no sign.
    return one[0] * other[1] < other[0] * one[1]


def summed(fractions):
    total = (0, 1)
    for fraction in fractions:
        total = plus(total, fraction)
    return total


def greatest(fractions):
    most = fractions[0]
    for fraction in fractions:
        if below(most, fraction):
            most = fraction
    return most
