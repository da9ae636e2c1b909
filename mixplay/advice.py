"""Advice: plans that no hand breaks, and the best of them for a goal.

A breach is a tuple (hand, told choice, other choice): the hand, told the one, takes the other.
"""

from mixplay.answers import is_mixing
from mixplay.errors import NoPlan
from mixplay.ratios import below, minus, plus, summed, times
from mixplay.rows import cleared
from mixplay.steps import best
from mixplay.tables import earned_with, joined, rest_of, rests
from mixplay.worth import lift_of, lifted


def breaches(table):
    told = []
    for hand, size in enumerate(table.sizes()):
        for choice in range(size):
            told.extend([(hand, choice, other) for other in range(size) if other != choice])
    return told


def check_plan(table, plan):
    plays = table.plays()
    for play in plays:
        if play not in plan:
            raise NoPlan("a play is lacking")
    # A key that is no play makes one weight more than there are plays.
    if not is_mixing(list(plan.values()), len(plays)):
        raise NoPlan("the weights are one for each play, none below 0, and come to 1")


def more_by(table, rest, breach):
    hand = breach[0]
    return minus(earned_with(table, rest, hand, breach[2]), earned_with(table, rest, hand, breach[1]))


def gain_by(table, plan, breach):
    total = (0, 1)
    for rest in rests(table, breach[0]):
        weight = plan[joined(rest, breach[0], breach[1])]
        total = plus(total, times(weight, more_by(table, rest, breach)))
    return total


def breaks(table, plan):
    check_plan(table, plan)
    for breach in breaches(table):
        if below((0, 1), gain_by(table, plan, breach)):
            return breach
    return None


def goal_of(table, play, goal):
    return summed([times(aim, earned) for aim, earned in zip(goal, table.earned(play))])


def more_in(table, play, breach):
    if play[breach[0]] != breach[1]:
        return (0, 1)
    return more_by(table, rest_of(play, breach[0]), breach)


# For each breach what it gains in the play, then 1 for the sum of the weights, then the goal. Numbers stay shorter
# where they are cleared by plays, not by breaches: fewer earnings come in.
def column_for(table, play, told, aim):
    return cleared([more_in(table, play, breach) for breach in told] + [(1, 1), aim])


def row_at(columns, place):
    return [(column[1][place], 1) for column in columns]


def advice(table, goal):
    plays = table.plays()
    told = breaches(table)
    goals = [goal_of(table, play, goal) for play in plays]
    # With 1 or more of the goal in each play the best plan comes to 1, not to less.
    lift = lift_of([goals])
    columns = [column_for(table, play, told, aim) for play, aim in zip(plays, lifted(goals, lift))]
    rows = [row_at(columns, place) for place in range(len(told) + 1)]
    found = best(rows, [(0, 1) for breach in told] + [(1, 1)], row_at(columns, -1))
    plan = {}
    for play, column, weight in zip(plays, columns, found[1]):
        plan[play] = times(weight, (column[0], 1))
    return (plan, dict(zip(told, found[2])), minus(found[2][-1], lift))
