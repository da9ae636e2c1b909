"""Mixings: what the hands earn by them, and what each would gain by going off alone."""

from mixplay.errors import NoMixing
from mixplay.ratios import below, greatest, minus, plus, summed, times
from mixplay.tables import earned_with, rests


def is_mixing(weights, many):
    if len(weights) != many:
        return False
    for weight in weights:
        if below(weight, (0, 1)):
            return False
    return summed(weights) == (1, 1)


def check_mixings(table, mixings):
    for hand, size in enumerate(table.sizes()):
        if not is_mixing(mixings[hand], size):
            raise NoMixing(hand)


# Serves plays by all mixings, and rests by the others' mixings.
def chance(choices, mixings):
    product = (1, 1)
    for choice, mixing in zip(choices, mixings):
        product = times(product, mixing[choice])
    return product


def earned_by(table, mixings):
    check_mixings(table, mixings)
    totals = [(0, 1) for size in table.sizes()]
    for play in table.plays():
        share = chance(play, mixings)
        totals = [plus(total, times(share, earned)) for total, earned in zip(totals, table.earned(play))]
    return totals


def answer(table, others, hand, choice):
    total = (0, 1)
    for rest in rests(table, hand):
        total = plus(total, times(chance(rest, others), earned_with(table, rest, hand, choice)))
    return total


def answers(table, mixings, hand):
    check_mixings(table, mixings)
    others = mixings[:hand] + mixings[hand + 1:]
    return [answer(table, others, hand, choice) for choice in range(table.sizes()[hand])]


def gains(table, mixings):
    told = []
    for hand, earned in enumerate(earned_by(table, mixings)):
        told.append(minus(greatest(answers(table, mixings, hand)), earned))
    return told
