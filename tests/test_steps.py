"""Point 15, and point 2 for it."""

import copy
import random
import unittest
import unittest.mock
from fractions import Fraction

from making import column_of, drawn, drawn_rows, meant, meant_row, products, told, whole
from mixplay.errors import NoStart, PlayError
from mixplay.steps import Corner, best, longest
from papers import Papers


def units(many):
    return [[(1 if place == other else 0, 1) for other in range(many)] for place in range(many)]


def halves(*numbers):
    return [told(Fraction(number, 2)) for number in numbers]


class Steps(Papers):
    def assert_list(self, weights, many):
        self.assertIs(type(weights), list)
        self.assertEqual(len(weights), many)
        self.assert_weights(weights)

    def assert_allowed(self, rows, bounds, xs):
        for row, bound in zip(rows, bounds):
            self.assertLessEqual(products(row, xs), bound)

    def assert_best(self, rows, bounds, goal, xs, ys):
        for place, aim in enumerate(goal):
            self.assertGreaterEqual(products(ys, column_of(rows, place)), aim)
        self.assertEqual(products(goal, xs), products(bounds, ys))

    def assert_endless(self, rows, goal, ways):
        for row in rows:
            self.assertLessEqual(products(row, ways), 0)
        self.assertGreater(products(goal, ways), 0)

    def paper(self, rows, bounds, goal):
        """Asks, checks what was told by point 15 alone, and gives the text back."""
        handed = copy.deepcopy((rows, bounds, goal))
        found = best(rows, bounds, goal)
        self.assertEqual((rows, bounds, goal), handed)
        self.assertIs(type(found), tuple)
        text, xs, others = found
        self.assertIn(text, ("best", "endless"))
        self.assert_list(xs, len(goal))
        self.assert_list(others, len(rows) if text == "best" else len(goal))
        meant_rows, aims, limits = [meant_row(row) for row in rows], meant_row(goal), meant_row(bounds)
        self.assert_allowed(meant_rows, limits, meant_row(xs))
        if text == "best":
            self.assert_best(meant_rows, limits, aims, meant_row(xs), meant_row(others))
        else:
            self.assert_endless(meant_rows, aims, meant_row(others))
        return text

    def most(self, rows, bounds, goal):
        """The most that is earned, where there is a best."""
        self.assertEqual(self.paper(rows, bounds, goal), "best")
        return told(products(meant_row(goal), meant_row(best(rows, bounds, goal)[1])))


class Known(Steps):
    def test_one_row_and_one_column(self):
        self.assertEqual(best([whole(2)], whole(3), whole(5)), ("best", [(3, 2)], [(5, 2)]))
        self.assertEqual(best([whole(2)], whole(3), whole(0))[0], "best")
        self.assertEqual(best([whole(2)], whole(3), whole(-5)), ("best", [(0, 1)], [(0, 1)]))
        self.assertEqual(self.paper([whole(0)], whole(3), whole(5)), "endless")
        self.assertEqual(self.paper([whole(-2)], whole(0), whole(5)), "endless")
        self.assertEqual(self.paper([whole(0)], whole(0), whole(0)), "best")

    def test_two_columns(self):
        rows = [whole(1, 0), whole(0, 2), whole(3, 2)]
        self.assertEqual(best(rows, whole(4, 12, 18), whole(3, 5)), ("best", whole(2, 6), [(0, 1), (3, 2), (1, 1)]))

    def test_fractions(self):
        rows = [[(1, 2), (1, 3)], [(1, 5), (2, 7)]]
        self.assertEqual(best(rows, whole(1, 1), whole(1, 0)), ("best", whole(2, 0), whole(2, 0)))
        self.assertEqual(best(rows, [(1, 6), (1, 1)], [(0, 1), (1, 3)])[1:], ([(0, 1), (1, 2)], whole(1, 0)))

    def test_rows_and_goals_that_all_share_a_divisor(self):
        rows = [whole(60, 0), whole(0, 2000), [(3, 70), (2, 70)]]
        self.paper(rows, [(240, 1), (12000, 1), (18, 70)], [(300, 7), (500, 7)])
        self.assertEqual(self.most([whole(60, 40)], whole(30), whole(300, 100)), (150, 1))

    def test_a_goal_that_is_best_from_the_start(self):
        for goal in (whole(-1, -2, -3), whole(0, 0, 0), whole(0, -1, 0)):
            self.assertEqual(self.most([whole(1, 2, 3), whole(-1, -1, -1)], whole(4, 0), goal), (0, 1))

    def test_a_way_that_needs_two_columns(self):
        rows = [whole(1, -1), whole(-2, 1)]
        self.assertEqual(self.paper(rows, whole(1, 1), whole(1, 0)), "endless")
        self.assertEqual(self.paper(rows, whole(0, 0), whole(1, 1)), "endless")
        self.assertEqual(self.paper([whole(1, -1), whole(-1, 2)], whole(1, 1), whole(1, 0)), "best")

    def test_rows_of_noughts(self):
        self.assertEqual(self.paper([whole(0, 0), whole(0, 0)], whole(0, 1), whole(0, 1)), "endless")
        self.assertEqual(self.paper([whole(0, 0), whole(0, 0)], whole(0, 1), whole(0, -1)), "best")
        self.assertEqual(self.most([whole(0, 0), whole(1, 1)], whole(0, 2), whole(1, 3)), (6, 1))

    def test_alike_rows(self):
        row = whole(1, 2)
        self.assertEqual(self.most([row, row, row], whole(2, 2, 2), whole(1, 1)), (2, 1))
        self.assertEqual(self.most([row, row, row], whole(2, 1, 2), whole(1, 1)), (1, 1))

    def test_one_column_and_many_rows(self):
        rows = [whole(number) for number in range(1, 8)]
        self.assertEqual(self.most(rows, whole(*[20] * 7), whole(3)), (60, 7))

    def test_one_row_and_many_columns(self):
        self.assertEqual(self.most([whole(3, 1, 2)], whole(12), whole(3, 2, 1)), (24, 1))
        self.assertEqual(self.paper([whole(3, 0, 2)], whole(12), whole(3, 2, 1)), "endless")

    def test_a_bound_of_nothing_that_stops_all(self):
        self.assertEqual(self.most([whole(1, 1)], whole(0), whole(5, 7)), (0, 1))

    def test_neither_rows_nor_columns(self):
        self.assertEqual(best([], [], whole(0, -1)), ("best", whole(0, 0), []))
        self.assertEqual(self.paper([], [], whole(0, 1)), "endless")
        self.assertEqual(best([[], []], whole(0, 1), []), ("best", [], whole(0, 0)))


class Ending(Steps):
    """Rows, bounds and goals at which steps that take the rows carelessly go round for ever, or very long."""

    def test_where_the_topmost_of_the_least_bounds_goes_round(self):
        rows = [
            [(-35, 1), (7, 2), (26, 1), (-51, 4)], [(-42, 1), (38, 1), (15, 2), (-37, 2)],
            whole(0, 10000, 20, 5), whole(100000, 0, 1, 5),
        ]
        self.assertEqual(self.paper(rows, whole(0, 0, 10 ** 6, 10 ** 6), whole(-23, 47, -41, -53)), "best")
        rows = [
            [(-11, 1), (3, 2), (50, 1), (29, 1), (-23, 1), (-19, 1)], whole(-28, 33, -33, 1, 32, -42),
            whole(5, 100000, 10000, 0, 1, 10000),
        ]
        self.paper(rows, whole(0, 0, 10 ** 6), whole(-43, 40, -29, -23, 15, -42))

    def test_where_the_lowest_of_the_least_bounds_goes_round(self):
        rows = [
            [(50, 1), (-55, 4), (-15, 1), (60, 1), (-19, 2)], [(-1, 2), (-14, 1), (48, 1), (3, 1), (-12, 1)],
            whole(1, 5, 10000, 10000, 100), whole(10000, 0, 0, 1000, 100000),
        ]
        self.paper(rows, whole(0, 0, 10 ** 6, 10 ** 6), whole(-41, -53, 13, 41, -34))

    def test_beale(self):
        rows = [
            [(1, 4), (-60, 1), (-1, 25), (9, 1)], [(1, 2), (-90, 1), (-1, 50), (3, 1)], whole(0, 0, 1, 0),
        ]
        self.assertEqual(self.most(rows, whole(0, 0, 1), [(3, 4), (-150, 1), (1, 50), (-6, 1)]), (1, 20))

    def test_chvatal(self):
        rows = [halves(1, -11, -5, 18), halves(1, -3, -1, 2), whole(1, 0, 0, 0)]
        self.assertEqual(self.most(rows, whole(0, 0, 1), whole(10, -57, -9, -24)), (1, 1))

    def test_marshall_and_suurballe(self):
        rows = [halves(1, -11, -5, 18), halves(1, -3, -1, 2)]
        self.assertEqual(self.paper(rows, whole(0, 0), whole(10, -57, -9, -24)), "endless")

    def test_klee_and_minty(self):
        for many in (2, 3, 8, 30):
            rows, bounds = [], []
            for place in range(many):
                steep = [2 ** (place - other + 1) if other < place else 0 for other in range(many)]
                steep[place] = 1
                rows.append(whole(*steep))
                bounds.append((5 ** (place + 1), 1))
            goal = whole(*[2 ** (many - 1 - place) for place in range(many)])
            self.assertEqual(self.most(rows, bounds, goal), (5 ** many, 1))

    def test_bounds_of_nothing_alone(self):
        chance = random.Random(15)
        seen = set()
        for many in range(1, 9):
            for wide in range(1, 9):
                rows = drawn_rows(many, wide, chance, 2)
                goal = drawn_rows(1, wide, chance, 2)[0]
                seen.add(self.paper(rows, [(0, 1)] * many, goal))
        self.assertEqual(seen, {"best", "endless"})

    def test_many_bounds_of_nothing_and_one_above(self):
        chance = random.Random(15)
        for many, wide in ((5, 5), (10, 20), (20, 40), (40, 30), (40, 90)):
            rows = drawn_rows(many, wide, chance, 3) + [whole(*[1] * wide)]
            bounds = [(0, 1)] * many + [(1, 1)]
            goal = drawn_rows(1, wide, chance, 9, 1, 1)[0]
            self.assertEqual(self.paper(rows, bounds, goal), "best")

    def test_places_for_all(self):
        chance = random.Random(15)
        many = 7
        rows = []
        for place in range(many):
            rows.append(whole(*[1 if other // many == place else 0 for other in range(many * many)]))
            rows.append(whole(*[1 if other % many == place else 0 for other in range(many * many)]))
        self.assertEqual(self.paper(rows, [(1, 1)] * len(rows), drawn_rows(1, many * many, chance, 9)[0]), "best")


class Drawn(Steps):
    def test_small_ones(self):
        chance = random.Random(16)
        seen = {"best": 0, "endless": 0}
        for time in range(1200):
            many, wide = chance.randint(1, 5), chance.randint(1, 5)
            rows = drawn_rows(many, wide, chance, chance.choice((1, 3, 9)), chance.choice((1, 4)))
            bounds = drawn_rows(1, many, chance, chance.choice((1, 9)), chance.choice((1, 4)), 0)[0]
            goal = drawn_rows(1, wide, chance, 5, chance.choice((1, 4)))[0]
            seen[self.paper(rows, bounds, goal)] += 1
        self.assertGreater(seen["best"], 300)
        self.assertGreater(seen["endless"], 300)

    def test_longer_ones(self):
        chance = random.Random(16)
        seen = set()
        for time in range(40):
            many, wide = chance.randint(6, 20), chance.randint(6, 25)
            rows = drawn_rows(many, wide, chance, 9, chance.choice((1, 9)), chance.choice((-9, -4, 0)))
            bounds = drawn_rows(1, many, chance, 20, 3, 0)[0]
            seen.add(self.paper(rows, bounds, drawn_rows(1, wide, chance, 9, 3)[0]))
        self.assertEqual(seen, {"best", "endless"})

    def test_sparse_ones(self):
        chance = random.Random(16)
        for time in range(60):
            many, wide = chance.randint(2, 15), chance.randint(2, 15)
            rows = [whole(*[chance.choice((0, 0, 0, 1, -1, 2)) for place in range(wide)]) for row in range(many)]
            bounds = [(chance.choice((0, 0, 1, 5)), 1) for row in range(many)]
            self.paper(rows, bounds, drawn_rows(1, wide, chance, 3)[0])

    def test_fractions_of_many_figures(self):
        chance = random.Random(16)
        seen = set()
        for figures in (20, 60, 300):
            for time in range(8):
                many, wide = chance.randint(1, 4), chance.randint(1, 4)
                rows = [[drawn(chance, figures) for place in range(wide)] for row in range(many)]
                bounds = [told(abs(meant(drawn(chance, figures)))) for row in range(many)]
                seen.add(self.paper(rows, bounds, [drawn(chance, figures) for place in range(wide)]))
        self.assertEqual(seen, {"best", "endless"})

    def test_numbers_of_very_unlike_sizes(self):
        great = 10 ** 5000
        rows = [[(great, 1), (1, great)], [(1, great), (great, 3)]]
        found = best(rows, [(1, great), (great, 1)], [(1, 1), (great, 7)])
        self.assertEqual(found[0], "best")
        xs, ys = meant_row(found[1]), meant_row(found[2])
        self.assertTrue(min(xs + ys) >= 0)
        for row, bound in zip(rows, [Fraction(1, great), Fraction(great)]):
            self.assertTrue(products(meant_row(row), xs) <= bound)
        for place, aim in enumerate([Fraction(1), Fraction(great, 7)]):
            self.assertTrue(products(meant_row(column_of(rows, place)), ys) >= aim)
        self.assertTrue(xs[0] + xs[1] * great / 7 == ys[0] / great + ys[1] * great)


def mingled(lists, many, chance):
    """So many sums of lists of whole numbers, each list taken up to three times."""
    told = []
    for time in range(many):
        parts = [chance.randint(0, 3) for one in lists]
        parts[chance.randrange(len(lists))] += 1
        told.append([sum(part * number for part, number in zip(parts, column)) for column in zip(*lists)])
    return told


class Long(Steps):
    """Long numbers, where a corner that is right by their first figures need not be right."""

    def test_told_apart_by_the_last_figure(self):
        for great in (10 ** 20, 10 ** 100, 10 ** 1000):
            self.assertEqual(best([whole(great), whole(great + 1)], whole(1, 1), whole(1)),
                             ("best", [(1, great + 1)], whole(0) + [(1, great + 1)]))
            self.assertEqual(best([whole(great + 1), whole(great)], whole(1, 1), whole(1)),
                             ("best", [(1, great + 1)], [(1, great + 1)] + whole(0)))
            for aims in ((great, great + 1), (great + 1, great)):
                self.assertEqual(best([whole(1, 1)], whole(1), whole(*aims)),
                                 ("best", whole(*[aim - great for aim in aims]), whole(great + 1)))

    def test_without_end_by_the_last_figure(self):
        for great in (10 ** 20, 10 ** 100, 10 ** 1000):
            aims = whole(1, 1)
            self.assertEqual(self.paper([whole(great, -great), whole(-great - 1, great)], whole(1, 1), aims), "endless")
            self.assertEqual(self.paper([whole(great, -great + 1), whole(-great, great)], whole(1, 1), aims), "best")
            self.assertEqual(self.paper([whole(great, -great), whole(-great, great)], whole(1, 1), aims), "endless")

    def test_rows_that_are_sums_of_others(self):
        chance = random.Random(16)
        for time in range(400):
            base, wide = chance.randint(1, 3), chance.randint(2, 5)
            lists = [[chance.randint(1, 10 ** 15) for place in range(wide + 1)] for row in range(base)]
            rows = mingled(lists, chance.randint(base + 1, 6), chance)
            aims = whole(*[sum(column) for column in zip(*lists)][:-1])
            self.assertEqual(self.paper([whole(*row[:-1]) for row in rows], whole(*column_of(rows, -1)), aims), "best")

    def test_columns_that_are_sums_of_others(self):
        chance = random.Random(16)
        seen = set()
        for time in range(150):
            many, great = chance.randint(2, 6), 10 ** chance.choice((15, 30))
            lists = [[chance.randint(-great, great) for row in range(many + 1)] for column in range(chance.randint(1, 3))]
            columns = mingled(lists, chance.randint(2, 7), chance)
            bounds = whole(*[chance.choice((0, 1, chance.randint(0, great))) for row in range(many)])
            rows = [whole(*column_of(columns, place)) for place in range(many + 1)]
            seen.add(self.paper(rows[:-1], bounds, rows[-1]))
        self.assertEqual(seen, {"best", "endless"})

    def test_alike_but_for_a_last_figure(self):
        chance = random.Random(16)
        seen = set()
        for time in range(150):
            many, wide, great = chance.randint(1, 6), chance.randint(1, 6), 10 ** chance.choice((15, 40))
            rows = [whole(*[chance.randint(-3, 3) * great + chance.randint(0, 1) for place in range(wide)])
                    for row in range(many + 1)]
            bounds = whole(*[chance.randint(0, 2) * great for row in range(many)])
            seen.add(self.paper(rows[:-1], bounds, rows[-1]))
        self.assertEqual(seen, {"best", "endless"})

    def test_long_and_short_bottoms(self):
        chance = random.Random(16)
        seen = set()
        for time in range(150):
            many, wide, great = chance.randint(1, 6), chance.randint(1, 6), 10 ** chance.choice((15, 40)) + 1
            rows = [[told(Fraction(chance.randint(-4, 4), chance.choice((1, 3, 7, great)))) for place in range(wide)]
                    for row in range(many + 1)]
            bounds = [told(Fraction(chance.randint(0, 4), chance.choice((1, 5, great)))) for row in range(many)]
            seen.add(self.paper(rows[:-1], bounds, rows[-1]))
        self.assertEqual(seen, {"best", "endless"})

    def test_rows_of_nothing_with_a_long_bound(self):
        great = 10 ** 60
        self.assertEqual(self.most([whole(0, 0), whole(1, 2)], [(great, 1), (great, 7)], whole(great, 1)),
                         told(Fraction(great * great, 7)))
        self.assertEqual(self.paper([whole(0, 0)], [(great, 1)], whole(great, 1)), "endless")
        self.assertEqual(self.paper([whole(0, 0)], [(great, 1)], whole(0, 0)), "best")

    def test_a_goal_that_is_a_sum_of_rows(self):
        # By the way (1, 1, 1) no row comes to more than 0, nor does a goal, but by fewer figures it would.
        chance = random.Random(16)
        for time in range(60):
            rows = []
            for row in range(2):
                one, other = [chance.randint(-10 ** 30, 10 ** 30) for place in range(2)]
                rows.append([one, other, -one - other])
            for less in (0, 1):
                aims = whole(*[sum(column) - less for column in zip(*rows)])
                self.assertEqual(self.paper([whole(*row) for row in rows], whole(1, 1), aims), "best")

    def test_long_numbers_take_few_steps(self):
        chance = random.Random(16)
        taken = []

        def step_in(corner, column, numbers, at):
            if max(longest(begun) for begun in corner.begun) > 100:
                taken.append(column)
            true_step(corner, column, numbers, at)

        true_step = Corner.step_in
        for time in range(10):
            rows = [[drawn(chance, 60) for place in range(12)] for row in range(12)] + [[(1, 1)] * 12]
            aims = [drawn(chance, 60) for place in range(12)]
            taken.clear()
            with unittest.mock.patch.object(Corner, "step_in", step_in):
                found = best(rows, [(1, 1)] * 13, aims)
            # One for each of the goal's columns that is inside at the end, and none to and fro.
            self.assertEqual(found[0], "best")
            self.assertEqual(len(taken), len([x for x in found[1] if x != (0, 1)]))

    def test_many_rows_of_long_fractions(self):
        chance = random.Random(16)
        seen = set()
        for many, wide in ((25, 25), (15, 30)):
            rows = [[drawn(chance, 8) for place in range(wide)] for row in range(many)]
            bounds = [told(abs(meant(drawn(chance, 8)))) for row in range(many)]
            seen.add(self.paper(rows, bounds, [(1, 1)] * wide))
        self.assertEqual(seen, {"best", "endless"})


class Greatest(Steps):
    def test_hundred_rows_of_numbers_above_nothing(self):
        chance = random.Random(17)
        rows = drawn_rows(100, 220, chance, 9, 1, 0)
        bounds = drawn_rows(1, 100, chance, 90, 4, 1)[0]
        self.assertEqual(self.paper(rows, bounds, drawn_rows(1, 220, chance, 9, 1, 1)[0]), "best")

    def test_hundred_rows_of_any_sign(self):
        chance = random.Random(17)
        rows = drawn_rows(99, 220, chance, 2) + [whole(*[1] * 220)]
        bounds = drawn_rows(1, 99, chance, 20, 1, 0)[0] + [(100, 1)]
        self.assertEqual(self.paper(rows, bounds, drawn_rows(1, 220, chance, 9)[0]), "best")

    def test_hundred_rows_without_end(self):
        chance = random.Random(17)
        rows = drawn_rows(100, 220, chance, 9)
        bounds = drawn_rows(1, 100, chance, 20, 1, 0)[0]
        self.assertEqual(self.paper(rows, bounds, drawn_rows(1, 220, chance, 9)[0]), "endless")

    def test_somewhat_beyond(self):
        rows = units(110) + [whole(*[1] * 110)]
        self.assertEqual(self.most(rows, [(1, 1)] * 110 + [(21, 2)], [(place, 1) for place in range(110)]),
                         told(Fraction(sum(range(100, 110))) + Fraction(99, 2)))
        wide = [whole(*range(1, 241))]
        self.assertEqual(self.most(wide, whole(6), whole(*range(241, 1, -1))), (1446, 1))


class Refused(Steps):
    def refused(self, rows, bounds, goal):
        handed = copy.deepcopy((rows, bounds, goal))
        with self.assertRaises(NoStart):
            best(rows, bounds, goal)
        self.assertEqual((rows, bounds, goal), handed)
        self.assertTrue(issubclass(NoStart, PlayError))

    def test_a_bound_below_nothing_in_each_place(self):
        rows = [whole(1, 2), whole(3, 4), whole(5, 6)]
        for place in range(3):
            for bound in ((-1, 1), (-1, 10 ** 60), (-10 ** 60, 1)):
                bounds = whole(7, 8, 9)
                bounds[place] = bound
                self.refused(rows, bounds, whole(1, 1))

    def test_all_bounds_below_nothing(self):
        self.refused([whole(1), whole(2)], whole(-1, -2), whole(1))

    def test_where_the_goal_is_endless(self):
        self.assertEqual(self.paper([whole(-1, 0), whole(0, -1)], whole(0, 0), whole(1, 1)), "endless")
        self.refused([whole(-1, 0), whole(0, -1)], whole(0, -1), whole(1, 1))
        self.refused([whole(0)], whole(-1), whole(1))

    def test_where_the_goal_is_best_already(self):
        for goal in (whole(-1, -1), whole(0, 0)):
            self.refused([whole(1, 0), whole(0, 1)], whole(1, -1), goal)
            self.refused([whole(-1, -1), whole(0, 0)], whole(-1, 1), goal)

    def test_where_something_is_allowed_all_the_same(self):
        self.refused([whole(-1)], whole(-1), whole(-1))

    def test_nothing_is_no_bound_below_nothing(self):
        self.assertEqual(self.paper([whole(1, 0), whole(0, 1)], whole(0, 0), whole(1, 1)), "best")


class Owned(Steps):
    asked = (
        ([whole(1, 0), whole(0, 2), whole(3, 2)], whole(4, 12, 18), whole(3, 5)),
        ([whole(1, -1), whole(-2, 1)], whole(1, 1), whole(1, 0)),
        ([whole(1, 1)], whole(0), whole(-5, -7)),
    )

    def test_told_lists_are_the_askers_own(self):
        for rows, bounds, goal in self.asked:
            first = best(rows, bounds, goal)
            before = copy.deepcopy(first)
            second = best(rows, bounds, goal)
            for told_list in second[1:]:
                told_list.append((9, 1))
                told_list[0] = (8, 1)
            self.assertEqual(first, before)
            self.assertIsNot(first[1], first[2])
            self.assertEqual(best(rows, bounds, goal), before)

    def test_what_was_handed_in_stays_the_same_lists(self):
        for rows, bounds, goal in copy.deepcopy(self.asked):
            inner = list(rows)
            found = best(rows, bounds, goal)
            for told_list in found[1:]:
                told_list.clear()
            self.assertTrue(all(one is other for one, other in zip(rows, inner)))
            self.assertIn((rows, bounds, goal), self.asked)

    def test_what_was_handed_in_is_changed_later(self):
        rows, bounds, goal = copy.deepcopy(self.asked[0])
        found = best(rows, bounds, goal)
        rows[0][0] = (77, 1)
        bounds.clear()
        goal[0] = (77, 1)
        self.assertEqual(found, best(*self.asked[0]))


if __name__ == "__main__":
    unittest.main()
