"""The best of all that is allowed, found by steps from corner to corner, with the paper for it.

Each row gets a spare: what is left of its bound. The columns are the goal's, then the spares'. At
a corner each row has one column inside, and only what is inside may be more than 0. A step lets one
column in and another one out. One more row stands for the goal, with a column that is its alone.

Of the rows at a corner only the spares' columns, the goal's own and the bound's are kept: by them
the numbers of any other column are its products at the start. All numbers stand over one bottom,
the goal's number in its own column.
"""

from mixplay.errors import NoStart
from mixplay.ratios import below, over, ratio, times
from mixplay.rows import cleared, leaving, plain, products, shared


# Plain, so that numbers stay short; with the fraction that made it so, by which answers find back.
def whole(row):
    made = cleared(row)
    return (ratio(made[0], max(shared(made[1]), 1)), plain(made[1]))


def unit(many, place):
    return [1 if other == place else 0 for other in range(many)]


def column_of(rows, place):
    return [row[place] for row in rows]


def span(column):
    return 1 + sum([abs(number) for number in column])


class Corner:
    def __init__(self, rows, bounds, goal):
        columns = [column_of(rows, place) for place in range(len(goal))]
        self.begun = [column + [-aim] for column, aim in zip(columns, goal)]
        self.spans = [span(column) for column in columns] + [span([1]) for row in rows]
        self.kept = [unit(len(rows) + 1, place) + [bound] for place, bound in enumerate(bounds + [0])]
        self.inside = [len(goal) + place for place in range(len(rows))]

    def bottom(self):
        return self.kept[-1][-2]

    # A column as it began ends ahead of the bound's place, so that bounds have no part in the products.
    def numbers(self, column):
        if column < len(self.begun):
            return [products(self.begun[column], row) for row in self.kept]
        return column_of(self.kept, column - len(self.begun))

    # Any column below 0 in the goal's row would do; the one with most for its size takes few steps.
    def entering(self):
        last = self.kept[-1]
        lacks = [products(column, last) for column in self.begun] + last[:len(self.inside)]
        found = None
        for place, lack in enumerate(lacks):
            if lack < 0 and (found is None or lack * self.spans[found] < lacks[found] * self.spans[place]):
                found = place
        return found

    # The goal's row never leaves, being below 0 where a column enters. The spares' columns tell any
    # two rows apart, so that no corner comes back.
    def leaving_by(self, numbers):
        rows = [row + [number] for row, number in zip(self.kept, numbers)]
        spares = len(self.inside)
        return leaving(rows, spares + 2, [spares + 1] + list(range(spares)))

    # All numbers are determinants of those at the start, so that the bottom divides without a rest.
    def step_in(self, column, numbers, at):
        bottom = self.bottom()
        gone = self.kept[at]
        moved = []
        for row, number in zip(self.kept, numbers):
            moved.append([(mine * numbers[at] - yours * number) // bottom for mine, yours in zip(row, gone)])
        moved[at] = gone
        self.kept = moved
        self.inside[at] = column

    # What is outside has nothing, and what spares have isn't told.
    def spread(self, numbers):
        told = [(0, 1) for column in self.begun]
        for number, column in zip(numbers, self.inside):
            if column < len(told):
                told[column] = ratio(number, self.bottom())
        return told

    def xs(self):
        return self.spread(column_of(self.kept, -1))

    def ys(self):
        return [ratio(number, self.bottom()) for number in self.kept[-1][:len(self.inside)]]

    def ways(self, column):
        told = self.spread([-number for number in self.numbers(column)])
        if column < len(told):
            told[column] = (1, 1)
        return told


# At the last corner either no column enters, or no row stops the one that does.
def unstopped(corner):
    column = corner.entering()
    while column is not None:
        numbers = corner.numbers(column)
        at = corner.leaving_by(numbers)
        if at is None:
            return column
        corner.step_in(column, numbers, at)
        column = corner.entering()
    return None


def best(rows, bounds, goal):
    for bound in bounds:
        if below(bound, (0, 1)):
            raise NoStart("a bound is below 0")
    made = [whole(row) for row in rows]
    limits = whole([times(bound, row[0]) for bound, row in zip(bounds, made)])
    aims = whole(goal)
    corner = Corner([row[1] for row in made], limits[1], aims[1])
    column = unstopped(corner)
    xs = [over(x, limits[0]) for x in corner.xs()]
    if column is not None:
        return ("endless", xs, corner.ways(column))
    return ("best", xs, [over(times(y, row[0]), aims[0]) for y, row in zip(corner.ys(), made)])
