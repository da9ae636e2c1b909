"""A point of two hands, found with labels.

Each choice of the first hand, then each of the second, is a label. In one set of rows stand the
chances of the first hand, with a spare for each choice of the second; in the other those of the
second, with a spare for each choice of the first. In both a label is the number of its column; the
bound's column is the last. Where each label is inside in just one of both sets, a choice that has a
chance has no spare, and so earns as much as any: the chances are a point, once they come to 1. So it
is at the start, too, but with no chance at all; the steps lead from there to where it is so again.
"""

from mixplay.errors import NotTwo
from mixplay.ratios import ratio, summed
from mixplay.rows import cleared, leaving, turned
from mixplay.steps import unit
from mixplay.tables import earnings, rests
from mixplay.worth import divided, lift_of, lifted


def raised(table, hand):
    rows = [earnings(table, hand, choice, rests(table, hand)) for choice in range(table.sizes()[hand])]
    lift = lift_of(rows)
    return [lifted(row, lift) for row in rows]


class Side:
    def __init__(self, rows, spares):
        self.rows = rows
        self.inside = list(spares)
        # The spares' columns tell any two rows apart, so that there is one way on and it ends.
        self.listed = [len(rows[0]) - 1] + spares

    def let_in(self, label):
        at = leaving(self.rows, label, self.listed)
        self.rows = turned(self.rows, at, label)
        gone = self.inside[at]
        self.inside[at] = label
        return gone

    def mixing(self, labels):
        found = {}
        for row, label in zip(self.rows, self.inside):
            found[label] = ratio(row[-1], row[label])
        chances = [found.get(label, (0, 1)) for label in labels]
        return divided(chances, summed(chances))


# The chances' columns are the other hand's labels, the spares' columns the hand's own.
def side_row(row, hand, spares):
    made = cleared(row)
    if hand == 0:
        return spares + made[1] + [made[0]]
    return made[1] + spares + [made[0]]


def spares_side(table, hand, labels):
    rows = []
    for place, row in enumerate(raised(table, hand)):
        rows.append(side_row(row, hand, unit(len(labels), place)))
    return Side(rows, labels)


def point(table):
    sizes = table.sizes()
    if len(sizes) != 2:
        raise NotTwo("a point is told of two hands")
    labels = [list(range(sizes[0])), list(range(sizes[0], sum(sizes)))]
    sides = [spares_side(table, 1, labels[1]), spares_side(table, 0, labels[0])]
    label = sides[0].let_in(0)
    turn = 1
    while label != 0:
        label = sides[turn].let_in(label)
        turn = 1 - turn
    return [side.mixing(own) for side, own in zip(sides, labels)]
