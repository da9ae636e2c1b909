"""Point 16, and point 2 for it."""

import copy
import random
import unittest

from making import column_of, drawn, drawn_rows, is_fraction, meant, meant_row, products, pure, whole
from mixplay.worth import worth
from papers import Papers


class Worths(Papers):
    def paper(self, rows):
        """Asks, checks what was told by point 16 alone, and gives the worth back."""
        handed = copy.deepcopy(rows)
        found = worth(rows)
        self.assertEqual(rows, handed)
        self.assertIs(type(found), tuple)
        told, of_rows, of_columns = found
        self.assertTrue(is_fraction(told))
        self.assert_mixing(of_rows, len(rows))
        self.assert_mixing(of_columns, len(rows[0]))
        meant_rows, number = [meant_row(row) for row in rows], meant(told)
        first, second = meant_row(of_rows), meant_row(of_columns)
        for place in range(len(rows[0])):
            self.assertTrue(products(first, column_of(meant_rows, place)) >= number)
        for row in meant_rows:
            self.assertTrue(products(row, second) <= number)
        return told


class Known(Worths):
    def test_pennies(self):
        self.assertEqual(worth([whole(1, -1), whole(-1, 1)]), ((0, 1), [(1, 2)] * 2, [(1, 2)] * 2))

    def test_paper_scissors_stone(self):
        rows = [whole(0, -1, 1), whole(1, 0, -1), whole(-1, 1, 0)]
        self.assertEqual(worth(rows), ((0, 1), [(1, 3)] * 3, [(1, 3)] * 3))

    def test_two_and_two(self):
        self.assertEqual(worth([whole(3, -1), whole(-2, 4)]), ((1, 1), [(3, 5), (2, 5)], [(1, 2), (1, 2)]))
        self.assertEqual(worth([whole(2, 0), whole(0, 1)]), ((2, 3), [(1, 3), (2, 3)], [(1, 3), (2, 3)]))

    def test_a_sure_point(self):
        rows = [whole(4, 2, 7), whole(9, 1, -3), whole(0, 0, 0)]
        self.assertEqual(worth(rows), ((2, 1), pure(3, 0), pure(3, 1)))

    def test_a_beaten_row_and_a_beaten_column_have_no_chance(self):
        rows = [whole(1, -1, 5), whole(-1, 1, 5), whole(-2, -2, 5)]
        self.assertEqual(worth(rows), ((0, 1), [(1, 2), (1, 2), (0, 1)], [(1, 2), (1, 2), (0, 1)]))

    def test_fractions(self):
        rows = [[(1, 2), (-1, 3)], [(-1, 5), (1, 7)]]
        self.assertEqual(self.paper(rows), (1, 247))
        self.assertEqual(worth([[(1, 2)]]), ((1, 2), [(1, 1)], [(1, 1)]))
        self.assertEqual(worth([[(-1, 2)]]), ((-1, 2), [(1, 1)], [(1, 1)]))

    def test_one_row(self):
        self.assertEqual(worth([whole(5, -3, 4)]), ((-3, 1), [(1, 1)], pure(3, 1)))
        self.assertEqual(self.paper([whole(2, 2, 2)]), (2, 1))
        self.assertEqual(self.paper([[(3, 2), (4, 3), (7, 5)]]), (4, 3))

    def test_one_column(self):
        self.assertEqual(worth([whole(5), whole(-3), whole(7)]), ((7, 1), pure(3, 2), [(1, 1)]))
        self.assertEqual(self.paper([whole(-2), whole(-2)]), (-2, 1))
        self.assertEqual(self.paper([[(3, 2)], [(4, 3)], [(7, 5)]]), (3, 2))

    def test_one_row_and_one_column(self):
        for number in (-7, 0, 7, 10 ** 60, -10 ** 60):
            self.assertEqual(worth([whole(number)]), ((number, 1), [(1, 1)], [(1, 1)]))

    def test_all_alike(self):
        for earned in ((0, 1), (5, 1), (-5, 1), (-2, 3), (1, 10 ** 60)):
            for many, wide in ((1, 1), (2, 3), (6, 6), (36, 36)):
                self.assertEqual(self.paper([[earned] * wide for row in range(many)]), earned)

    def test_all_below_nothing(self):
        self.assertEqual(worth([whole(-1, -3), whole(-3, -1)]), ((-2, 1), [(1, 2)] * 2, [(1, 2)] * 2))
        self.assertEqual(self.paper([whole(-9, -8), whole(-7, -6)]), (-7, 1))

    def test_more_for_every_earning_is_more_for_the_worth(self):
        rows = [whole(3, -1), whole(-2, 4)]
        for more in (-100, -3, 7, 10 ** 40):
            raised = [[(earned[0] + more, 1) for earned in row] for row in rows]
            self.assertEqual(self.paper(raised), (1 + more, 1))


class Drawn(Worths):
    def test_small_ones(self):
        chance = random.Random(18)
        for time in range(400):
            many, wide = chance.randint(1, 6), chance.randint(1, 6)
            rows = drawn_rows(many, wide, chance, chance.choice((1, 3, 9)), chance.choice((1, 1, 5)))
            value = self.paper(rows)
            # What the second hand loses it earns by the turned table, so that the worth turns, too.
            turned = [[(-earned[0], earned[1]) for earned in column_of(rows, place)] for place in range(wide)]
            self.assertEqual(self.paper(turned), (-value[0], value[1]))

    def test_all_below_nothing_and_all_above(self):
        chance = random.Random(18)
        for time in range(60):
            many, wide = chance.randint(1, 6), chance.randint(1, 6)
            above = drawn_rows(many, wide, chance, 9, 4, 1)
            self.assertGreater(self.paper(above)[0], 0)
            self.assertLess(self.paper([[(-earned[0], earned[1]) for earned in row] for row in above])[0], 0)

    def test_one_row_or_one_column(self):
        chance = random.Random(18)
        for wide in (1, 2, 5, 36):
            row = drawn_rows(1, wide, chance, 50, 9)[0]
            self.assertEqual(meant(self.paper([row])), min(meant_row(row)))
            self.assertEqual(meant(self.paper([[earned] for earned in row])), max(meant_row(row)))

    def test_many_figures(self):
        chance = random.Random(18)
        for figures, many, wide in ((60, 3, 3), (60, 4, 2), (400, 2, 3), (3000, 2, 2)):
            self.paper([[drawn(chance, figures) for place in range(wide)] for row in range(many)])

    def test_36_rows_and_36_columns(self):
        chance = random.Random(18)
        for top, bottom in ((1, 1), (9, 1), (9, 9), (10 ** 20, 1)):
            self.paper(drawn_rows(36, 36, chance, top, bottom))

    def test_6_and_36(self):
        chance = random.Random(18)
        self.paper(drawn_rows(6, 36, chance, 99, 9))
        self.paper(drawn_rows(36, 6, chance, 99, 9))

    def test_36_of_each_that_all_have_a_chance(self):
        rows = [whole(*[place + 1 if place == other else 0 for other in range(36)]) for place in range(36)]
        self.assertEqual(self.paper(rows)[0] > 0, True)
        self.assertTrue(all(chance[0] > 0 for chance in worth(rows)[1] + worth(rows)[2]))

    def test_somewhat_beyond(self):
        self.paper(drawn_rows(40, 38, random.Random(18), 9))


class Owned(unittest.TestCase):
    def test_told_lists_are_the_askers_own(self):
        for rows in ([whole(3, -1), whole(-2, 4)], [whole(0)], [whole(0, 0), whole(0, 0)]):
            first = worth(rows)
            before = copy.deepcopy(first)
            for told in worth(rows)[1:]:
                told.append((9, 1))
                told[0] = (8, 1)
            self.assertEqual(first, before)
            self.assertIsNot(first[1], first[2])
            self.assertEqual(worth(rows), before)

    def test_the_rows_stay_the_same_lists(self):
        rows = [whole(3, -1), whole(-2, 4)]
        inner = list(rows)
        worth(rows)
        self.assertTrue(all(one is other for one, other in zip(rows, inner)))
        self.assertEqual(rows, [whole(3, -1), whole(-2, 4)])

    def test_the_rows_are_changed_later(self):
        rows = [whole(3, -1), whole(-2, 4)]
        found = worth(rows)
        rows[0][0] = (77, 1)
        rows.clear()
        self.assertEqual(found, ((1, 1), [(3, 5), (2, 5)], [(1, 2), (1, 2)]))


if __name__ == "__main__":
    unittest.main()
