"""Choices weighed: each kept one is beaten by a mixing, or best against a belief."""

from mixplay.errors import NoChoice
from mixplay.ratios import below, minus
from mixplay.tables import earnings, one_of_each
from mixplay.worth import worth


def all_kept(table):
    return [list(range(size)) for size in table.sizes()]


def less(row, other):
    return [minus(mine, yours) for mine, yours in zip(row, other)]


def spread(chances, choices, many):
    told = [(0, 1) for choice in range(many)]
    for chance, choice in zip(chances, choices):
        told[choice] = chance
    return told


def weighed(table, hand, choice, kept=None):
    if kept is None:
        kept = all_kept(table)
    if choice not in kept[hand]:
        raise NoChoice(hand, choice)
    others = one_of_each(kept[:hand] + kept[hand + 1:])
    own = earnings(table, hand, choice, others)
    # A game for what is earned beyond the choice: it is worth more than 0 just where a mixing beats the choice
    # against each rest, and else the rests are mixed so that nothing earns beyond it.
    found = worth([less(earnings(table, hand, other, others), own) for other in kept[hand]])
    if below((0, 1), found[0]):
        return ("beaten", spread(found[1], kept[hand], table.sizes()[hand]))
    return ("belief", dict(zip(others, found[2])))
