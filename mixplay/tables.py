"""Tables: what each hand earns for what all hands take together."""

from mixplay.errors import NoChoice, NoTable


def one_of_each(lists):
    told = [()]
    for choices in lists:
        longer = []
        for begun in told:
            longer.extend([begun + (choice,) for choice in choices])
        told = longer
    return told


def in_order(sizes):
    return one_of_each([list(range(size)) for size in sizes])


def check_sizes(sizes):
    if len(sizes) < 2 or len(sizes) > 3:
        raise NoTable("a table is for two or three hands")
    for size in sizes:
        if size < 1 or size > 6:
            raise NoTable("a hand has one to six choices")


def check_cells(cells, plays, hands):
    for play in plays:
        if play not in cells:
            raise NoTable("a play is lacking")
        if len(cells[play]) != hands:
            raise NoTable("a play's list has one entry for each hand")
    # Every play is among the keys by now, so that a key more is none of them.
    if len(cells) != len(plays):
        raise NoTable("a key is no play")


class Table:
    def __init__(self, sizes, cells):
        # The sizes are checked first: the plays of great ones would never be counted up.
        check_sizes(sizes)
        plays = in_order(sizes)
        check_cells(cells, plays, len(sizes))
        self.many = list(sizes)
        self.cells = {}
        for play in plays:
            self.cells[play] = list(cells[play])

    def sizes(self):
        return list(self.many)

    def plays(self):
        return in_order(self.many)

    def earned(self, play):
        for hand, size in enumerate(self.many):
            if play[hand] < 0 or play[hand] >= size:
                raise NoChoice(hand, play[hand])
        return list(self.cells[play])


def rest_of(play, hand):
    return play[:hand] + play[hand + 1:]


def joined(rest, hand, choice):
    return rest[:hand] + (choice,) + rest[hand:]


def rests(table, hand):
    sizes = table.sizes()
    return in_order(sizes[:hand] + sizes[hand + 1:])


def earned_with(table, rest, hand, choice):
    return table.earned(joined(rest, hand, choice))[hand]


def earnings(table, hand, choice, others):
    return [earned_with(table, rest, hand, choice) for rest in others]
