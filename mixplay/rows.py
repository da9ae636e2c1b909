"""Rows of numbers: made plain, cleared, turned at one of them, and which of them leaves."""

from mixplay.ratios import divisor


def shared(row):
    told = 0
    for number in row:
        told = divisor(told, number)
        # Numbers may be long: what is left of the row can't change this.
        if told == 1:
            return told
    return told


def plain(row):
    common = shared(row)
    if common < 2:
        return list(row)
    return [number // common for number in row]


def cleared(row):
    number = 1
    for fraction in row:
        number = number * (fraction[1] // divisor(number, fraction[1]))
    return (number, [fraction[0] * (number // fraction[1]) for fraction in row])


def products(one, other):
    return sum([mine * yours for mine, yours in zip(one, other)])


def rid_of(row, kept, column):
    # Times a number above 0 and nothing taken away, it would come out plain the same.
    if row[column] == 0:
        return plain(row)
    return plain([mine * kept[column] - yours * row[column] for mine, yours in zip(row, kept)])


def turned(rows, at, column):
    told = []
    for place, row in enumerate(rows):
        if place == at:
            told.append(list(row))
        else:
            told.append(rid_of(row, rows[at], column))
    return told


def is_ahead(row, other, column, listed):
    for place in listed:
        # Both numbers in the column are above 0, so that crossing them turns no sign.
        mine = row[place] * other[column]
        yours = other[place] * row[column]
        if mine != yours:
            return mine < yours
    return False


def leaving(rows, column, listed):
    found = None
    for place, row in enumerate(rows):
        if row[column] > 0 and (found is None or is_ahead(row, rows[found], column, listed)):
            found = place
    return found
