"""The worth of a game where the second hand loses what the first one earns, with both mixings."""

from mixplay.ratios import minus, over, plus, summed
from mixplay.steps import best


def least_whole(row):
    return min([fraction[0] // fraction[1] for fraction in row])


# With it every earning is 1 or more; it is whole, so that no bottom grows.
def lift_of(rows):
    return (1 - min([least_whole(row) for row in rows]), 1)


def lifted(row, lift):
    return [plus(fraction, lift) for fraction in row]


def divided(weights, total):
    return [over(weight, total) for weight in weights]


def worth(rows):
    lift = lift_of(rows)
    raised = [lifted(row, lift) for row in rows]
    # Weights of the columns by which no row earns more than 1 come to 1 over the worth at most, since all earnings
    # are above 0; divided by their sum they are a mixing.
    found = best(raised, [(1, 1) for row in rows], [(1, 1) for fraction in rows[0]])
    total = summed(found[1])
    return (minus(over((1, 1), total), lift), divided(found[2], total), divided(found[1], total))
