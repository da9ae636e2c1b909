"""Rounds: beaten choices are taken out, until each that is kept has its ground."""

from mixplay.beaten import all_kept, weighed
from mixplay.errors import NoOrder


def pairs_of(table):
    told = []
    for hand, size in enumerate(table.sizes()):
        told.extend([(hand, choice) for choice in range(size)])
    return told


# Takes out of what is kept and writes into the log; told are the grounds of those that were not beaten.
def gone_through(table, order, kept, log):
    grounds = {}
    for hand, choice in order:
        if choice in kept[hand]:
            found = weighed(table, hand, choice, kept)
            if found[0] == "beaten":
                kept[hand].remove(choice)
                log.append((hand, choice, found[1]))
            else:
                grounds[(hand, choice)] = found[1]
    return grounds


def rounds(table, order=None):
    pairs = pairs_of(table)
    if order is None:
        order = pairs
    if sorted(order) != pairs:
        raise NoOrder("an order has each choice of each hand once")
    kept = all_kept(table)
    log = []
    logged = 0
    grounds = gone_through(table, order, kept, log)
    # Only grounds that were told while nothing was taken out hold among what is kept at the end.
    while logged < len(log):
        logged = len(log)
        grounds = gone_through(table, order, kept, log)
    return (kept, log, grounds)
