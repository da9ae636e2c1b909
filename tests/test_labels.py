"""Point 19, and point 2 for it."""

import copy
import random
import unittest
from fractions import Fraction

from making import (
    alone, behind, daring, dilemma, drawn, drawn_rows, drawn_table, few_table, losing_table, meant, pennies, plays_of,
    pure, spoil, told, trio, two_hands, whole)
from mixplay.answers import earned_by, gains
from mixplay.errors import NotTwo
from mixplay.labels import point
from mixplay.sure import sure_points
from mixplay.tables import Table
from mixplay.worth import worth
from papers import Papers


def alike_table(rows, chance, many, wide):
    """Some rows and some columns of a drawn table, several of them twice or more."""
    firsts = [chance.randrange(len(rows)) for choice in range(many)]
    seconds = [chance.randrange(len(rows[0])) for choice in range(wide)]
    return two_hands([[rows[first][second] for second in seconds] for first in firsts])


class Points(Papers):
    def check(self, table):
        mixings = self.find_point(table)
        self.assertEqual(gains(table, mixings), [(0, 1), (0, 1)])
        return mixings


class Known(Points):
    def test_pennies(self):
        self.assertEqual(self.check(pennies()), [[(1, 2), (1, 2)], [(1, 2), (1, 2)]])

    def test_paper_scissors_stone(self):
        table = losing_table([whole(0, -1, 1), whole(1, 0, -1), whole(-1, 1, 0)])
        self.assertEqual(self.check(table), [[(1, 3)] * 3, [(1, 3)] * 3])

    def test_the_only_sure_point(self):
        self.assertEqual(self.check(dilemma()), [pure(2, 1), pure(2, 1)])
        self.assertEqual(self.check(behind()), [pure(2, 0), pure(3, 1)])

    def test_hands_that_mix_unlike(self):
        table = two_hands([[(3, 0), (0, 2)], [(0, 3), (1, 0)]])
        self.assertEqual(self.check(table), [[(3, 5), (2, 5)], [(1, 4), (3, 4)]])

    def test_fractions(self):
        table = Table([2, 2], {
            (0, 0): [(1, 2), (-1, 3)], (0, 1): [(-1, 5), (1, 7)], (1, 0): [(-2, 3), (1, 2)], (1, 1): [(1, 9), (-3, 4)]})
        self.assertEqual(self.check(table), [[(21, 29), (8, 29)], [(4, 19), (15, 19)]])

    def test_several_points(self):
        for table in (daring(), two_hands([[(2, 1), (0, 0)], [(0, 0), (1, 2)]]),
                      two_hands([[(1, 1), (0, 0), (0, 0)], [(0, 0), (1, 1), (0, 0)], [(0, 0), (0, 0), (1, 1)]])):
            self.check(table)

    def test_one_choice(self):
        self.assertEqual(self.check(Table([1, 1], {(0, 0): whole(-3, 4)})), [[(1, 1)], [(1, 1)]])
        self.assertEqual(self.check(alone([3, 9, -4])), [pure(3, 1), [(1, 1)]])
        self.assertEqual(self.check(two_hands([[(0, 3), (0, 9), (0, -4)]])), [[(1, 1)], pure(3, 1)])

    def test_all_alike(self):
        for sizes in ([1, 1], [2, 2], [1, 6], [6, 1], [3, 5], [6, 6]):
            for number in (0, 5, -5):
                self.check(Table(sizes, {play: whole(number, number) for play in plays_of(sizes)}))

    def test_all_below_nothing(self):
        self.assertEqual(self.check(two_hands([[(-1, -3), (-3, -1)], [(-3, -1), (-1, -3)]])),
                         [[(1, 2), (1, 2)], [(1, 2), (1, 2)]])

    def test_a_long_way(self):
        # Each choice is the answer to the one before it, round and round.
        rows = [[(1 if other == choice else 0, 1 if other == (choice + 1) % 6 else 0) for other in range(6)]
                for choice in range(6)]
        self.assertEqual(self.check(two_hands(rows)), [[(1, 6)] * 6, [(1, 6)] * 6])


    def test_ways_that_would_go_round(self):
        # Many rows are alike in the bound's column here: where the topmost of them leaves, the steps never end.
        self.check(two_hands([
            [(2, 3), (2, 3), (2, 0)], [(0, 3), (0, 0), (0, 2)], [(3, 1), (0, 0), (0, 2)], [(3, 0), (2, 2), (3, 3)]]))
        self.check(two_hands([
            [(-1, -1), (-1, -1), (0, -1)], [(-1, -1), (1, -1), (-1, 0)], [(-1, -1), (1, -1), (1, 0)],
            [(1, -1), (0, 0), (1, -1)], [(0, 0), (1, -1), (0, 1)], [(1, -1), (-1, 1), (1, 1)]]))
        for rows in ([[0, 0, 0, 0], [0, 0, 2, 1], [0, 2, 0, 0], [1, 0, 2, 0]],
                     [[-1, 0, 1], [2, 1, -1], [2, 0, 2], [1, 1, 0], [0, 0, 0]],
                     [[0, 0, 0], [0, 0, 1], [0, 2, 0], [0, 0, 2], [1, 0, 2]]):
            self.check(two_hands([[(number, number) for number in row] for row in rows]))


class Drawn(Points):
    def test_few_earnings(self):
        chance = random.Random(19)
        for time in range(400):
            self.check(few_table([chance.randint(1, 6), chance.randint(1, 6)], chance, *chance.choice(((0, 1), (-2, 2)))))

    def test_fractions(self):
        chance = random.Random(19)
        for time in range(200):
            self.check(drawn_table([chance.randint(1, 6), chance.randint(1, 6)], chance))

    def test_one_choice_and_six(self):
        chance = random.Random(19)
        for sizes in ([1, 1], [1, 6], [6, 1], [6, 6], [2, 6], [6, 2]):
            for time in range(12):
                self.check(drawn_table(sizes, chance))
                self.check(few_table(sizes, chance))

    def test_alike_rows_and_columns(self):
        chance = random.Random(19)
        for time in range(150):
            rows = [[(chance.randint(-2, 2), chance.randint(-2, 2)) for second in range(3)] for first in range(3)]
            self.check(alike_table(rows, chance, chance.randint(2, 6), chance.randint(2, 6)))

    def test_the_second_earns_less_what_the_first_earns(self):
        chance = random.Random(19)
        for time in range(120):
            rows = drawn_rows(chance.randint(1, 6), chance.randint(1, 6), chance, chance.choice((1, 9)), 3)
            table = losing_table(rows)
            self.assertEqual(earned_by(table, self.check(table))[0], worth(rows)[0])

    def test_the_second_earns_what_the_first_earns(self):
        chance = random.Random(19)
        for time in range(120):
            sizes = [chance.randint(1, 6), chance.randint(1, 6)]
            cells = {}
            for play in plays_of(sizes):
                number = told(Fraction(chance.randint(-3, 3), chance.randint(1, 2)))
                cells[play] = [number, number]
            self.check(Table(sizes, cells))

    def test_raised_and_stretched_earnings_have_the_same_points(self):
        chance = random.Random(19)
        for time in range(40):
            sizes = [chance.randint(1, 5), chance.randint(1, 5)]
            table = few_table(sizes, chance)
            cells = {}
            for play in plays_of(sizes):
                first, second = [meant(number) for number in table.earned(play)]
                cells[play] = [told(first / 7 - 1000), told(second * 12 + Fraction(1, 3))]
            self.assert_point(table, self.check(Table(sizes, cells)))

    def test_many_figures(self):
        chance = random.Random(19)
        for figures, sizes in ((40, [6, 6]), (200, [3, 4]), (2000, [2, 2])):
            self.check(drawn_table(sizes, chance, figures))
        great = [[drawn(chance, 100) for second in range(4)] for first in range(4)]
        self.check(losing_table(great))

    def test_sure_points_among_them(self):
        chance = random.Random(19)
        for time in range(60):
            table = few_table([3, 3], chance)
            for play in sure_points(table):
                self.assert_point(table, [pure(3, choice) for choice in play])


class Refused(Papers):
    def test_three_hands(self):
        for table in (trio(), Table([1, 1, 1], {(0, 0, 0): whole(1, 2, 3)}), few_table([6, 6, 6], random.Random(19))):
            self.assert_refused(NotTwo, point, table)


class Owned(Papers):
    def test_told_lists_are_the_askers_own(self):
        for table in (pennies(), dilemma(), daring(), Table([1, 1], {(0, 0): whole(-3, 4)})):
            first = point(table)
            before = copy.deepcopy(first)
            self.assertIsNot(first[0], first[1])
            spoil(point(table))
            self.assertEqual(first, before)
            self.assertEqual(point(table), before)


if __name__ == "__main__":
    unittest.main()
