"""The best of all that is allowed, found by steps from corner to corner, with the paper for it.

Each row gets a spare: what is left of its bound. The columns are the goal's, then the spares'. At
a corner each row has one column inside, and only what is inside may be more than 0. A step lets one
column in and another one out. One more row stands for the goal, with a column that is its alone.

Of the rows at a corner only the spares' columns, the goal's own and the bound's are kept: by them
the numbers of any other column are its products at the start. All numbers stand over one bottom,
the goal's number in its own column.

Where numbers are long, the steps are taken with rounded ones first. The corner where they end is
mostly the last one of the true numbers, too, and these come to it in few steps. Nothing is told by
rounded numbers: whether a corner is allowed and the last one is asked of the true ones.
"""

from mixplay.errors import NoStart
from mixplay.ratios import below, over, ratio, times
from mixplay.rows import cleared, leaving, plain, products, shared

# So many bits tell corners apart mostly; where they don't, more are tried.
BITS = 40


# Plain, so that numbers stay short; with the fraction that made it so, by which answers find back.
def whole(row):
    made = cleared(row)
    return (ratio(made[0], max(shared(made[1]), 1)), plain(made[1]))


def unit(many, place):
    return [1 if other == place else 0 for other in range(many)]


def column_of(rows, place):
    return [row[place] for row in rows]


def span(column):
    return 1 + sum([abs(number) for number in column])


def longest(row):
    return max([number.bit_length() for number in row])


def bits_beyond(column, longs):
    return max([number.bit_length() - long for number, long in zip(column, longs) if number != 0], default=0)


# Numbers that are alike but for the sign stay so.
def stretched(number, bits):
    if number < 0:
        return -stretched(-number, bits)
    return number << bits if bits > 0 else number >> -bits


def shortened(row, bits, wides):
    return [stretched(number, bits - wide) for number, wide in zip(row, wides)]


# To stretch a row or a column changes no corner, so that each may keep bits of its own. The bounds are no measure
# for their rows: some of them may be 0, and others long.
def rounded(lists, bits):
    longs = [longest(row[:-1]) for row in lists]
    wides = [bits_beyond(column_of(lists, place), longs) for place in range(len(lists[0]))]
    return [shortened(row, bits - long, wides) for row, long in zip(lists, longs)]


def turned_round(row):
    return [-number for number in row]


class Corner:
    # The rows have their bounds last; the last of them is the goal's, turned round, and with no bound.
    def __init__(self, lists):
        self.begun = [column_of(lists, place) for place in range(len(lists[0]) - 1)]
        self.spans = [span(column[:-1]) for column in self.begun] + [span([1]) for row in lists[:-1]]
        self.kept = [unit(len(lists), place) + [row[-1]] for place, row in enumerate(lists)]
        self.inside = [len(self.begun) + place for place in range(len(lists) - 1)]

    def bottom(self):
        return self.kept[-1][-2]

    # A column as it began ends ahead of the bound's place, so that bounds have no part in the products.
    def numbers(self, column):
        if column < len(self.begun):
            return [products(self.begun[column], row) for row in self.kept]
        return column_of(self.kept, column - len(self.begun))

    # Any column below 0 in the goal's row would do; the one with most for its size takes few steps.
    def entering(self):
        last = self.kept[-1]
        lacks = [products(column, last) for column in self.begun] + last[:len(self.inside)]
        found = None
        for place, lack in enumerate(lacks):
            if lack < 0 and (found is None or lack * self.spans[found] < lacks[found] * self.spans[place]):
                found = place
        return found

    # The goal's row never leaves, being below 0 where a column enters. The spares' columns tell any
    # two rows apart, so that no corner comes back.
    def leaving_by(self, numbers):
        rows = [row + [number] for row, number in zip(self.kept, numbers)]
        spares = len(self.inside)
        return leaving(rows, spares + 2, [spares + 1] + list(range(spares)))

    # All numbers are determinants of those at the start, so that the bottom divides without a rest.
    def step_in(self, column, numbers, at):
        bottom = self.bottom()
        gone = self.kept[at]
        moved = []
        for row, number in zip(self.kept, numbers):
            moved.append([(mine * numbers[at] - yours * number) // bottom for mine, yours in zip(row, gone)])
        moved[at] = gone
        self.kept = moved
        self.inside[at] = column

    # What a bound leaves may be below 0 on the way, so that any row may be left whose spare is to go out.
    def comes_to(self, inside):
        first = len(self.begun)
        free = [place for place in range(len(inside)) if first + place not in inside]
        for column in [one for one in inside if one < first]:
            numbers = self.numbers(column)
            places = [place for place in free if numbers[place] != 0]
            if not places:
                return False
            self.step_in(column, numbers, places[0])
            free.remove(places[0])
        if self.bottom() < 0:
            self.kept = [turned_round(row) for row in self.kept]
        return min(column_of(self.kept[:-1], -1)) >= 0

    def ends_with(self, column):
        if column is None:
            return self.entering() is None
        numbers = self.numbers(column)
        return numbers[-1] < 0 and self.leaving_by(numbers) is None

    # What is outside has nothing, and what spares have isn't told.
    def spread(self, numbers):
        told = [(0, 1) for column in self.begun]
        for number, column in zip(numbers, self.inside):
            if column < len(told):
                told[column] = ratio(number, self.bottom())
        return told

    def xs(self):
        return self.spread(column_of(self.kept, -1))

    def ys(self):
        return [ratio(number, self.bottom()) for number in self.kept[-1][:len(self.inside)]]

    def ways(self, column):
        told = self.spread([-number for number in self.numbers(column)])
        if column < len(told):
            told[column] = (1, 1)
        return told


# At the last corner either no column enters, or no row stops the one that does: that column is told.
def unstopped(corner):
    column = corner.entering()
    while column is not None:
        numbers = corner.numbers(column)
        at = corner.leaving_by(numbers)
        if at is None:
            return column
        corner.step_in(column, numbers, at)
        column = corner.entering()
    return None


def last_corner(lists):
    bits = BITS
    while bits < max([longest(row) for row in lists]):
        guess = Corner(rounded(lists, bits))
        column = unstopped(guess)
        corner = Corner(lists)
        if corner.comes_to(guess.inside) and corner.ends_with(column):
            return (corner, column)
        bits = 2 * bits
    corner = Corner(lists)
    column = unstopped(corner)
    return (corner, column)


def best(rows, bounds, goal):
    for bound in bounds:
        if below(bound, (0, 1)):
            raise NoStart("a bound is below 0")
    made = [whole(row) for row in rows]
    limits = whole([times(bound, row[0]) for bound, row in zip(bounds, made)])
    aims = whole(goal)
    lists = [row[1] + [limit] for row, limit in zip(made, limits[1])]
    ended = last_corner(lists + [turned_round(aims[1]) + [0]])
    xs = [over(x, limits[0]) for x in ended[0].xs()]
    if ended[1] is not None:
        return ("endless", xs, ended[0].ways(ended[1]))
    return ("best", xs, [over(times(y, row[0]), aims[0]) for y, row in zip(ended[0].ys(), made)])
