"""Points 12, 13 and 14, and point 2 for them."""

import copy
import math
import random
import unittest
from fractions import Fraction

from making import drawn, meant, whole
from mixplay.rows import cleared, leaving, plain, turned

LONG = 10 ** 59 + 7


def drawn_wholes(many, wide, chance, most=6):
    return [[chance.randint(-most, most) for place in range(wide)] for row in range(many)]


def reduced(rows):
    """The rows as Python's own fractions, brought to the one form that all rows that say the same have."""
    left = [[Fraction(number) for number in row] for row in rows]
    done = []
    for place in range(len(rows[0])):
        pivot = next((row for row in left if row[place] != 0), None)
        if pivot is None:
            continue
        left = [row for row in left if row is not pivot]
        pivot = [number / pivot[place] for number in pivot]
        left = [[one - row[place] * other for one, other in zip(row, pivot)] for row in left]
        done = [[one - row[place] * other for one, other in zip(row, pivot)] for row in done]
        done.append(pivot)
    return done


class Plain(unittest.TestCase):
    def test_a_row_of_nothing(self):
        self.assertEqual(plain([]), [])

    def test_rows_of_noughts(self):
        self.assertEqual(plain([0]), [0])
        self.assertEqual(plain([0, 0, 0]), [0, 0, 0])

    def test_rows_of_one_number(self):
        for number in (1, 2, 7, LONG, 10 ** 5000):
            self.assertTrue(plain([number]) == [1])
            self.assertTrue(plain([-number]) == [-1])

    def test_signs_both_ways(self):
        self.assertEqual(plain([4, -6, 10]), [2, -3, 5])
        self.assertEqual(plain([-4, 6, -10]), [-2, 3, -5])
        self.assertEqual(plain([-4, -6]), [-2, -3])
        self.assertEqual(plain([0, -5, 0]), [0, -1, 0])
        self.assertEqual(plain([-3, 0, 9]), [-1, 0, 3])

    def test_rows_that_are_plain(self):
        for row in ([1], [-1], [2, 3], [6, 10, 15], [-6, 10, -15], [0, 1], [4, 6, 1], [1, 0, 0], [0, 0, -1]):
            self.assertEqual(plain(row), row)

    def test_numbers_with_sixty_figures(self):
        self.assertEqual(len(str(LONG)), 60)
        self.assertEqual(plain([LONG, -2 * LONG, 0, 3 * LONG]), [1, -2, 0, 3])
        self.assertEqual(plain([-6 * LONG, 10 * LONG]), [-3, 5])
        self.assertEqual(plain([LONG, LONG + 1]), [LONG, LONG + 1])

    def test_drawn_rows(self):
        chance = random.Random(12)
        for most in (3, 30, 10 ** 60):
            for time in range(150):
                times = chance.randint(1, 12)
                row = [times * chance.randint(-most, most) for place in range(chance.randint(1, 5))]
                found = plain(row)
                divides = math.gcd(*row)
                self.assertEqual([number * divides for number in found], row)
                self.assertEqual(math.gcd(*found), 1 if any(row) else 0)

    def test_the_row_stays_and_the_told_one_is_new(self):
        for row in ([], [0, 0], [2, 3], [4, -6]):
            before = list(row)
            found = plain(row)
            self.assertIsNot(found, row)
            found.append(9)
            found[0] = 8
            self.assertEqual(row, before)
            self.assertEqual(plain(row), plain(before))
            self.assertIs(type(plain(row)), list)


class Cleared(unittest.TestCase):
    def test_a_row_of_nothing(self):
        self.assertEqual(cleared([]), (1, []))

    def test_noughts(self):
        self.assertEqual(cleared([(0, 1)]), (1, [0]))
        self.assertEqual(cleared([(0, 1), (0, 1)]), (1, [0, 0]))

    def test_one_fraction(self):
        self.assertEqual(cleared([(3, 4)]), (4, [3]))
        self.assertEqual(cleared([(-3, 4)]), (4, [-3]))
        self.assertEqual(cleared([(6, 1)]), (1, [6]))

    def test_whole_numbers_stay_as_they_are(self):
        self.assertEqual(cleared(whole(4, -6, 0, 8)), (1, [4, -6, 0, 8]))

    def test_bottoms_that_share_divisors(self):
        self.assertEqual(cleared([(1, 4), (1, 6)]), (12, [3, 2]))
        self.assertEqual(cleared([(1, 6), (-5, 4), (7, 10)]), (60, [10, -75, 42]))
        self.assertEqual(cleared([(1, 2), (1, 4), (1, 8)]), (8, [4, 2, 1]))
        self.assertEqual(cleared([(1, 8), (1, 4), (1, 2)]), (8, [1, 2, 4]))
        self.assertEqual(cleared([(1, 9), (1, 9), (2, 9)]), (9, [1, 1, 2]))

    def test_bottoms_that_share_none(self):
        self.assertEqual(cleared([(1, 2), (1, 3), (-1, 5), (0, 1), (2, 1)]), (30, [15, 10, -6, 0, 60]))

    def test_tops_that_share_divisors_are_left(self):
        self.assertEqual(cleared([(4, 3), (-8, 3)]), (3, [4, -8]))

    def test_numbers_with_sixty_figures(self):
        self.assertEqual(cleared([(1, 2 * LONG), (-1, 6 * LONG)]), (6 * LONG, [3, -1]))
        self.assertEqual(cleared([(LONG, 2), (LONG, 3)]), (6, [3 * LONG, 2 * LONG]))

    def test_drawn_rows(self):
        chance = random.Random(12)
        for figures in (1, 1, 2, 60):
            for time in range(60):
                row = [drawn(chance, figures) for place in range(chance.randint(1, 5))]
                number, wholes = cleared(row)
                self.assertEqual(number, math.lcm(*[fraction[1] for fraction in row]))
                self.assertEqual(wholes, [meant(fraction) * number for fraction in row])
                self.assertEqual({type(one) for one in wholes + [number]}, {int})

    def test_the_row_stays_and_the_told_one_is_new(self):
        row = [(1, 2), (3, 1), (-1, 6)]
        first = cleared(row)
        self.assertIs(type(first), tuple)
        self.assertIs(type(first[1]), list)
        cleared(row)[1].clear()
        self.assertEqual(first, (6, [3, 18, -1]))
        self.assertEqual(cleared(row), (6, [3, 18, -1]))
        self.assertEqual(row, [(1, 2), (3, 1), (-1, 6)])
        cleared([])[1].append(4)
        self.assertEqual(cleared([]), (1, []))


class Turned(unittest.TestCase):
    def test_two_rows(self):
        self.assertEqual(turned([[2, 1, 4], [3, 5, 7]], 0, 0), [[2, 1, 4], [0, 7, 2]])
        self.assertEqual(turned([[2, 1, 4], [3, 5, 7]], 1, 1), [[7, 0, 13], [3, 5, 7]])
        self.assertEqual(turned([[2, 1, 4], [-3, 5, 7]], 0, 0), [[2, 1, 4], [0, 1, 2]])

    def test_three_rows_at_each_of_them(self):
        rows = [[1, 2, 1], [2, 1, 3], [-1, 1, 4]]
        self.assertEqual(turned(rows, 0, 1), [[1, 2, 1], [3, 0, 5], [-3, 0, 7]])
        self.assertEqual(turned(rows, 1, 1), [[-3, 0, -5], [2, 1, 3], [-3, 0, 1]])
        self.assertEqual(turned(rows, 2, 1), [[3, 0, -7], [3, 0, -1], [-1, 1, 4]])

    def test_the_row_turned_at_stays_as_it_is(self):
        self.assertEqual(turned([[4, 6, -8], [1, 1, 1]], 0, 0), [[4, 6, -8], [0, -1, 6]])
        self.assertEqual(turned([[4, 6, -8]], 0, 1), [[4, 6, -8]])

    def test_other_rows_are_plain_behind_it(self):
        self.assertEqual(turned([[1, 0, 2], [3, 6, 12]], 0, 0), [[1, 0, 2], [0, 1, 1]])

    def test_a_row_with_nothing_there_is_made_plain_too(self):
        self.assertEqual(turned([[5, 1], [0, 6]], 0, 0), [[5, 1], [0, 1]])
        self.assertEqual(turned([[5, 1, 2], [0, 6, -9], [0, -4, 0]], 0, 0), [[5, 1, 2], [0, 2, -3], [0, -1, 0]])
        self.assertEqual(turned([[0, 6, -9], [5, 1, 2]], 1, 0), [[0, 2, -3], [5, 1, 2]])

    def test_rows_that_come_to_noughts(self):
        self.assertEqual(turned([[2, 4], [3, 6], [0, 0]], 0, 1), [[2, 4], [0, 0], [0, 0]])

    def test_one_column(self):
        self.assertEqual(turned([[4], [6], [-6], [0]], 0, 0), [[4], [0], [0], [0]])

    def check(self, rows, at, column):
        before = copy.deepcopy(rows)
        found = turned(rows, at, column)
        self.assertEqual(rows, before)
        self.assertEqual(len(found), len(rows))
        self.assertEqual(found[at], rows[at])
        number = rows[at][column]
        for place, (row, other) in enumerate(zip(found, rows)):
            self.assertIsNot(row, other)
            if place != at:
                self.assertEqual(row[column], 0)
                meant_to_be = [number * one - other[column] * kept for one, kept in zip(other, rows[at])]
                divides = max(math.gcd(*meant_to_be), 1)
                self.assertEqual([one * divides for one in row], meant_to_be)
                self.assertIn(math.gcd(*row), (0, 1))
        self.assertEqual(sorted(reduced(found)), sorted(reduced(rows)))

    def test_drawn_rows(self):
        chance = random.Random(13)
        done = 0
        for most in (2, 6, 10 ** 60):
            for time in range(60):
                rows = drawn_wholes(chance.randint(1, 5), chance.randint(1, 5), chance, most)
                for at, row in enumerate(rows):
                    for column, number in enumerate(row):
                        if number > 0:
                            self.check(rows, at, column)
                            done += 1
        self.assertGreater(done, 500)

    def test_one_list_for_two_rows(self):
        row = [2, 4]
        self.assertEqual(turned([row, row], 0, 0), [[2, 4], [0, 0]])
        self.assertEqual(row, [2, 4])

    def test_told_rows_are_the_askers_own(self):
        rows = [[2, 1, 4], [3, 5, 7], [0, 1, 1]]
        first = turned(rows, 0, 0)
        for row in turned(rows, 0, 0):
            row.append(9)
            row[0] = 8
        turned(rows, 0, 0).clear()
        self.assertEqual(first, [[2, 1, 4], [0, 7, 2], [0, 1, 1]])
        self.assertEqual(turned(rows, 0, 0), first)
        self.assertEqual(rows, [[2, 1, 4], [3, 5, 7], [0, 1, 1]])
        self.assertEqual([type(row) for row in first] + [type(first)], [list] * 4)


class Leaving(unittest.TestCase):
    def test_no_row_above_nothing(self):
        self.assertIsNone(leaving([], 0, [1]))
        self.assertIsNone(leaving([[0, 1], [-1, 1], [-5, -1]], 0, [1]))
        self.assertIsNone(leaving([[0, 1], [-1, 1]], 0, []))

    def test_the_only_row_above_nothing(self):
        self.assertEqual(leaving([[0, 1], [3, 100], [-1, -9]], 0, [1]), 1)
        self.assertEqual(leaving([[0, 1], [-1, -9], [3, 100]], 0, []), 2)

    def test_by_the_first_listed_column(self):
        self.assertEqual(leaving([[1, 5], [2, 8], [1, 6]], 0, [1]), 1)
        self.assertEqual(leaving([[3, 7], [2, 5], [7, 16]], 0, [1]), 2)
        self.assertEqual(leaving([[3, 7, 0], [2, 4, 9]], 0, [1, 2]), 1)
        self.assertEqual(leaving([[3, 7, 0], [2, 4, 9]], 0, [2, 1]), 0)

    def test_by_a_later_listed_column(self):
        rows = [[1, 2, 3, 9], [2, 4, 6, 17], [3, 6, 9, 28]]
        self.assertEqual(leaving(rows, 0, [1, 2, 3]), 1)
        self.assertEqual(leaving(rows, 0, [1, 3, 2]), 1)
        self.assertEqual(leaving([[1, 0, 2], [5, 0, 9], [4, 0, 8]], 0, [1, 2]), 1)

    def test_a_column_ahead_counts_before_a_later_one(self):
        self.assertEqual(leaving([[1, 0, 9, 9], [1, 0, 8, 100], [1, 1, -9, -9]], 0, [1, 2, 3]), 1)

    def test_alike_in_all_listed_columns_the_topmost_leaves(self):
        self.assertEqual(leaving([[0, 0, 0], [2, 4, 9], [1, 2, 1], [3, 6, 0]], 0, [1]), 1)
        self.assertEqual(leaving([[2, 4], [1, 2], [1, 2]], 0, [1]), 0)

    def test_an_empty_list_of_columns(self):
        self.assertEqual(leaving([[-1, 0], [2, 9], [1, 0]], 0, []), 1)

    def test_a_column_named_twice(self):
        self.assertEqual(leaving([[1, 2, 5], [1, 2, 4], [1, 3, 0]], 0, [1, 1, 2]), 1)
        self.assertEqual(leaving([[1, 2, 5], [1, 2, 4]], 0, [1, 1]), 0)

    def test_the_column_itself_is_listed(self):
        self.assertEqual(leaving([[1, 5], [9, 9], [2, 8]], 0, [0, 1]), 1)
        self.assertEqual(leaving([[1, 5], [9, 9], [2, 8]], 0, [0]), 0)

    def test_negative_numbers_in_the_listed_columns(self):
        self.assertEqual(leaving([[1, 0], [2, -1], [3, -1]], 0, [1]), 1)
        self.assertEqual(leaving([[1, -1], [2, -3], [4, -5]], 0, [1]), 1)
        self.assertEqual(leaving([[2, 0, -2], [1, 0, -1], [1, 0, -2]], 0, [1, 2]), 2)

    def test_a_row_that_is_not_above_nothing_never_leaves(self):
        self.assertEqual(leaving([[0, -100], [-1, -100], [1, 5]], 0, [1]), 2)

    def test_a_column_in_the_midst(self):
        self.assertEqual(leaving([[5, 2, 7], [3, 1, 3], [1, 0, 0]], 1, [2, 0]), 1)
        self.assertEqual(leaving([[5, 2, 7], [3, 1, 3], [1, 0, 0]], 1, [0]), 0)

    def test_numbers_with_sixty_figures(self):
        self.assertEqual(leaving([[LONG, LONG + 1], [LONG + 1, LONG + 2]], 0, [1]), 1)
        self.assertEqual(leaving([[LONG + 1, LONG + 2], [LONG, LONG + 1]], 0, [1]), 0)

    def test_drawn_rows(self):
        chance = random.Random(14)
        seen = set()
        for time in range(800):
            rows = drawn_wholes(chance.randint(1, 5), 4, chance, 2)
            column = chance.randrange(4)
            listed = [chance.randrange(4) for place in range(chance.randint(0, 4))]
            lists = {}
            for place, row in enumerate(rows):
                if row[column] > 0:
                    lists[place] = [Fraction(row[other], row[column]) for other in listed]
            expected = min(lists, key=lambda place: (lists[place], place), default=None)
            self.assertEqual(leaving(rows, column, listed), expected)
            seen.add(expected)
        self.assertEqual(seen, {None, 0, 1, 2, 3, 4})

    def test_what_was_handed_in_stays(self):
        rows, listed = [[1, 5], [2, 8], [1, 6]], [1, 0, 1]
        self.assertEqual(leaving(rows, 0, listed), 1)
        self.assertEqual(rows, [[1, 5], [2, 8], [1, 6]])
        self.assertEqual(listed, [1, 0, 1])


if __name__ == "__main__":
    unittest.main()
