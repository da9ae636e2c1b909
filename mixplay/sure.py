"""Sure points: the plays from which no hand goes off alone."""

from mixplay.ratios import below, greatest
from mixplay.tables import earned_with, rest_of


def going_off(table, play):
    # Asked ahead of all hands: a wrong choice of a later hand is refused where an earlier one goes off, too.
    earned = table.earned(play)
    for hand, size in enumerate(table.sizes()):
        rest = rest_of(play, hand)
        choices = [earned_with(table, rest, hand, choice) for choice in range(size)]
        most = greatest(choices)
        if below(earned[hand], most):
            return (hand, choices.index(most))
    return None


def sure_points(table):
    return [play for play in table.plays() if going_off(table, play) is None]
