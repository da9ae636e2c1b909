"""Points 20 and 21, and point 2 for them."""

import copy
import random
import unittest
from fractions import Fraction

from making import (
    alone, behind, daring, dilemma, drawn_goal, drawn_mixing, drawn_table, few_table, losing_table, meant, pennies,
    plays_of, spoil, told, trio, two_hands, whole)
from mixplay.advice import advice, breaks
from mixplay.errors import NoPlan
from mixplay.tables import Table
from papers import Papers


def plan_of(sizes, weights):
    """A plan with these weights and 0 for all other plays."""
    plan = {play: (0, 1) for play in plays_of(sizes)}
    plan.update(weights)
    return plan


def sure_plan(sizes, play):
    return plan_of(sizes, {play: (1, 1)})


def even_plan(sizes):
    plays = plays_of(sizes)
    return {play: (1, len(plays)) for play in plays}


class Breaks(Papers):
    def test_no_hand(self):
        self.assertIsNone(self.broken_by(pennies(), even_plan([2, 2])))
        self.assertIsNone(self.broken_by(dilemma(), sure_plan([2, 2], (1, 1))))
        self.assertIsNone(self.broken_by(daring(), plan_of([2, 2], {(0, 0): (1, 2), (0, 1): (1, 4), (1, 0): (1, 4)})))
        self.assertIsNone(self.broken_by(trio(), sure_plan([2, 1, 3], (1, 0, 2))))

    def test_nobody_breaks_for_as_much(self):
        alike = Table([2, 3], {play: whole(5, -5) for play in plays_of([2, 3])})
        for plan in (even_plan([2, 3]), sure_plan([2, 3], (1, 2))):
            self.assertIsNone(self.broken_by(alike, plan))
        # Told its choice 0, the first hand has 6 and 2 or 7 and 0, as much together.
        self.assertIsNone(self.broken_by(daring(), plan_of([2, 2], {(0, 0): (2, 4), (0, 1): (1, 4), (1, 0): (1, 4)})))
        self.assertEqual(self.broken_by(daring(), plan_of([2, 2], {(0, 0): (3, 5), (0, 1): (1, 5), (1, 0): (1, 5)})),
                         (0, 0, 1))

    def test_the_first_hand(self):
        self.assertEqual(self.broken_by(dilemma(), sure_plan([2, 2], (0, 1))), (0, 0, 1))
        self.assertEqual(self.broken_by(pennies(), sure_plan([2, 2], (1, 0))), (0, 1, 0))
        self.assertEqual(self.broken_by(daring(), sure_plan([2, 2], (1, 1))), (0, 1, 0))

    def test_a_later_hand(self):
        self.assertEqual(self.broken_by(dilemma(), sure_plan([2, 2], (1, 0))), (1, 0, 1))
        self.assertEqual(self.broken_by(pennies(), sure_plan([2, 2], (1, 1))), (1, 1, 0))
        self.assertEqual(self.broken_by(trio(), sure_plan([2, 1, 3], (1, 0, 1))), (2, 1, 2))
        self.assertEqual(self.broken_by(daring(), plan_of([2, 2], {(0, 0): (1, 3), (0, 1): (2, 3)})), (1, 0, 1))

    def test_the_first_tuple_in_order(self):
        # Both hands break it, the first by each of several choices.
        self.assertEqual(self.broken_by(dilemma(), sure_plan([2, 2], (0, 0))), (0, 0, 1))
        self.assertEqual(self.broken_by(dilemma(), even_plan([2, 2])), (0, 0, 1))
        self.assertEqual(self.broken_by(alone([4, 7, 2, 9]), sure_plan([4, 1], (0, 0))), (0, 0, 1))
        self.assertEqual(self.broken_by(alone([4, 2, 7, 9]), sure_plan([4, 1], (0, 0))), (0, 0, 2))
        self.assertEqual(self.broken_by(alone([4, 2, 7, 9]), sure_plan([4, 1], (2, 0))), (0, 2, 3))
        self.assertEqual(self.broken_by(alone([4, 2, 7, 9]), plan_of([4, 1], {(3, 0): (1, 2), (1, 0): (1, 2)})),
                         (0, 1, 0))

    def test_only_plays_with_the_told_choice_count(self):
        # What the hand earns where it is told 1 doesn't make up for what it loses where it is told 0.
        table = two_hands([[(0, 0), (3, 0)], [(1, 0), (0, 0)]])
        plan = plan_of([2, 2], {(0, 0): (1, 4), (1, 0): (3, 4)})
        self.assertEqual(self.broken_by(table, plan), (0, 0, 1))

    def test_what_is_never_told_breaks_nothing(self):
        table = two_hands([[(5, 5), (0, 0)], [(-9, -9), (-9, -9)]])
        self.assertIsNone(self.broken_by(table, sure_plan([2, 2], (0, 0))))

    def test_hands_of_one_choice(self):
        self.assertIsNone(self.broken_by(Table([1, 1], {(0, 0): whole(-3, 4)}), sure_plan([1, 1], (0, 0))))
        self.assertIsNone(self.broken_by(Table([1, 1, 1], {(0, 0, 0): whole(1, 2, 3)}), sure_plan([1, 1, 1], (0, 0, 0))))

    def test_drawn_plans(self):
        chance = random.Random(20)
        seen = set()
        for time in range(300):
            sizes = [chance.randint(1, 3) for hand in range(chance.choice((2, 3)))]
            plays = plays_of(sizes)
            plan = dict(zip(plays, drawn_mixing(len(plays), chance)))
            if chance.random() < 0.5:
                plan = sure_plan(sizes, chance.choice(plays))
            told = self.broken_by(few_table(sizes, chance), plan)
            seen.add(None if told is None else told[0])
        self.assertEqual(seen, {None, 0, 1, 2})

    def test_plans_that_are_just_not_broken(self):
        chance = random.Random(20)
        little = Fraction(1, 10 ** 40)
        for time in range(40):
            table = few_table([2, 2], chance)
            plan = advice(table, drawn_goal([2, 2], chance))[0]
            self.assertIsNone(self.broken_by(table, plan))
            for play in plays_of([2, 2]):
                moved = {key: meant(weight) * (1 - little) for key, weight in plan.items()}
                moved[play] += little
                self.broken_by(table, {key: told(weight) for key, weight in moved.items()})


class Refused(Papers):
    def refused(self, table, plan):
        self.assert_refused(NoPlan, breaks, table, plan)

    def test_a_play_less(self):
        for table, sure in ((pennies(), (0, 1)), (trio(), (1, 0, 2))):
            sizes = table.sizes()
            for play in plays_of(sizes):
                plan = sure_plan(sizes, sure)
                del plan[play]
                self.refused(table, plan)
        self.refused(pennies(), {})

    def test_a_play_more(self):
        for more in ((0, 2), (2, 0), (-1, 0), (0, -1), (5, 5), (0, 10 ** 5000)):
            for weight in ((0, 1), (1, 4)):
                self.refused(pennies(), plan_of([2, 2], {(1, 1): (1, 1), more: weight}))
        for more in ((2, 0, 0), (0, 1, 0), (0, 0, 3)):
            self.refused(trio(), plan_of([2, 1, 3], {(1, 0, 2): (1, 1), more: (0, 1)}))

    def test_a_key_that_is_none(self):
        for key in ((), (0,), (0, 0, 0), (2, 0), (0, -1)):
            self.refused(pennies(), plan_of([2, 2], {(1, 1): (1, 1), key: (0, 1)}))
            for play in plays_of([2, 2]):
                plan = even_plan([2, 2])
                plan[key] = plan.pop(play)
                self.refused(pennies(), plan)
        for key in ((), (0, 0), (1, 2), (0, 0, 0, 0)):
            self.refused(trio(), plan_of([2, 1, 3], {(1, 0, 2): (1, 1), key: (0, 1)}))

    def test_a_weight_below_nothing(self):
        for play in plays_of([2, 2]):
            for other in plays_of([2, 2]):
                if other != play:
                    self.refused(pennies(), plan_of([2, 2], {play: (-1, 3), other: (4, 3)}))
        self.refused(pennies(), plan_of([2, 2], {(0, 0): (-1, 10 ** 60), (1, 1): (10 ** 60 + 1, 10 ** 60)}))

    def test_a_sum_above_and_below(self):
        for weight in ((1, 2), (2, 1), (0, 1), (10 ** 60 - 1, 10 ** 60), (10 ** 60 + 1, 10 ** 60)):
            for table in (pennies(), trio()):
                sizes = table.sizes()
                for play in plays_of(sizes):
                    self.refused(table, plan_of(sizes, {play: weight}))
        self.refused(pennies(), {play: (1, 2) for play in plays_of([2, 2])})

    def test_refused_where_a_hand_would_break_it_too(self):
        self.refused(dilemma(), plan_of([2, 2], {(0, 0): (1, 1), (1, 1): (1, 1)}))
        self.refused(dilemma(), plan_of([2, 2], {(0, 0): (1, 2)}))


class Known(Papers):
    def test_one_plan_alone_is_advice(self):
        for goal in (whole(1, 0), whole(0, 1), whole(-3, 2), whole(0, 0), [(1, 2), (-5, 7)]):
            self.assertEqual(self.advise(pennies(), goal), (even_plan([2, 2]), (0, 1)))
            worth = told(meant(goal[0]) + meant(goal[1]))
            self.assertEqual(self.advise(dilemma(), goal), (sure_plan([2, 2], (1, 1)), worth))
            self.assertEqual(self.advise(behind(), goal)[0], sure_plan([2, 3], (0, 1)))

    def test_more_than_any_point_has(self):
        plan = plan_of([2, 2], {(0, 0): (1, 2), (0, 1): (1, 4), (1, 0): (1, 4)})
        self.assertEqual(self.advise(daring(), whole(1, 1)), (plan, (21, 2)))

    def test_one_hands_goal(self):
        self.assertEqual(self.advise(daring(), whole(1, 0)), (sure_plan([2, 2], (1, 0)), (7, 1)))
        self.assertEqual(self.advise(daring(), whole(0, 1)), (sure_plan([2, 2], (0, 1)), (7, 1)))

    def test_the_least_is_the_best_below_nothing(self):
        self.assertEqual(self.advise(daring(), whole(-1, 0)), (sure_plan([2, 2], (0, 1)), (-2, 1)))
        plan = plan_of([2, 2], {(0, 1): (2, 5), (1, 0): (2, 5), (1, 1): (1, 5)})
        self.assertEqual(self.advise(daring(), whole(-1, -1)), (plan, (-36, 5)))

    def test_goals_of_nothing(self):
        for table in (pennies(), dilemma(), daring(), behind(), trio(), few_table([3, 3, 3], random.Random(21))):
            self.assertEqual(self.advise(table, [(0, 1)] * len(table.sizes()))[1], (0, 1))

    def test_hands_of_one_choice(self):
        self.assertEqual(advice(Table([1, 1], {(0, 0): whole(-3, 4)}), whole(2, 1)), ({(0, 0): (1, 1)}, {}, (-2, 1)))
        self.assertEqual(advice(Table([1, 1, 1], {(0, 0, 0): [(1, 2), (1, 3), (1, 5)]}), [(1, 1), (-1, 2), (1, 7)]),
                         ({(0, 0, 0): (1, 1)}, {}, (38, 105)))
        self.assertEqual(self.advise(alone([3, 9, -4]), whole(-1, 0)), (sure_plan([3, 1], (1, 0)), (-9, 1)))
        self.assertEqual(self.advise(two_hands([[(5, 1), (4, 1), (9, 0)]]), whole(-1, 0)),
                         (sure_plan([1, 3], (0, 1)), (-4, 1)))

    def test_three_hands(self):
        self.assertEqual(self.advise(trio(), whole(1, 1, 1)), (sure_plan([2, 1, 3], (1, 0, 2)), (123, 1)))

    def test_all_alike(self):
        for sizes in ([2, 2], [6, 6], [3, 1, 2], [4, 4, 4]):
            table = Table(sizes, {play: [(2, 3)] * len(sizes) for play in plays_of(sizes)})
            for aim in (3, -3):
                self.assertEqual(self.advise(table, [(aim, 1)] * len(sizes))[1], (2 * len(sizes) * aim // 3, 1))

    def test_one_hands_earnings_alone(self):
        # Only the second hand cares, so that the first one's goal may be had from any of its best plays.
        table = two_hands([[(4, 1), (0, 0)], [(-4, 1), (8, 1)]])
        self.assertEqual(self.advise(table, whole(1, 0))[1], (8, 1))


class Drawn(Papers):
    def advise_all(self, table, chance, times=2):
        for time in range(times):
            self.advise(table, drawn_goal(table.sizes(), chance))

    def test_tables_of_two_hands(self):
        chance = random.Random(21)
        for time in range(100):
            sizes = [chance.randint(1, 5), chance.randint(1, 5)]
            self.advise_all(few_table(sizes, chance) if time % 2 else drawn_table(sizes, chance), chance)

    def test_tables_of_three_hands(self):
        chance = random.Random(21)
        for time in range(60):
            sizes = [chance.randint(1, 3), chance.randint(1, 3), chance.randint(1, 3)]
            self.advise_all(few_table(sizes, chance) if time % 2 else drawn_table(sizes, chance), chance)

    def test_goals_of_any_sign(self):
        chance = random.Random(21)
        for table in (few_table([3, 3], chance), drawn_table([2, 3, 2], chance)):
            for signs in plays_of([3] * len(table.sizes())):
                self.advise(table, [(sign - 1, 1) for sign in signs])

    def test_losing_tables(self):
        chance = random.Random(21)
        for time in range(20):
            rows = [whole(*[chance.randint(-3, 3) for second in range(4)]) for first in range(4)]
            self.advise_all(losing_table(rows), chance)

    def test_a_goal_that_is_stretched(self):
        chance = random.Random(21)
        for time in range(20):
            table = few_table([3, 4], chance)
            goal = drawn_goal([3, 4], chance)
            number = meant(self.advise(table, goal)[1])
            for stretch in (Fraction(1, 7), 3, 10 ** 30):
                stretched = [told(meant(aim) * stretch) for aim in goal]
                self.assertEqual(meant(self.advise(table, stretched)[1]), number * stretch)

    def test_six_of_each(self):
        chance = random.Random(21)
        self.advise_all(drawn_table([6, 6], chance), chance)
        self.advise(few_table([6, 6, 6], chance), whole(1, -1, 1))
        self.advise(few_table([6, 6, 6], chance, 0, 1), whole(1, 1, 1))
        self.advise(few_table([6, 6, 6], chance, -99, 99), [(1, 3), (0, 1), (-2, 1)])

    def test_many_figures(self):
        chance = random.Random(21)
        self.advise_all(drawn_table([2, 2], chance, 500), chance)
        self.advise_all(drawn_table([3, 3], chance, 40), chance)
        self.advise_all(drawn_table([2, 2, 2], chance, 60), chance)
        self.advise(drawn_table([2, 3], chance, 9), [(10 ** 400, 3), (-1, 10 ** 400)])


class Owned(Papers):
    def test_told_dicts_are_the_askers_own(self):
        for table in (pennies(), daring(), trio(), Table([1, 1], {(0, 0): whole(-3, 4)})):
            goal = [(1, 2)] * len(table.sizes())
            first = advice(table, goal)
            before = copy.deepcopy(first)
            self.assertIsNot(first[0], first[1])
            spoil(advice(table, goal))
            self.assertEqual(first, before)
            self.assertEqual(advice(table, goal), before)
            goal.clear()
            self.assertEqual(first, before)

    def test_the_plan_stays(self):
        plan = even_plan([2, 2])
        keys = list(plan)
        breaks(dilemma(), plan)
        self.assertEqual((plan, list(plan)), (even_plan([2, 2]), keys))

    def test_the_order_of_a_plans_keys_has_no_part(self):
        for table in (dilemma(), daring()):
            for plan in (even_plan([2, 2]), plan_of([2, 2], {(0, 0): (1, 3), (0, 1): (2, 3)})):
                turned = {play: plan[play] for play in reversed(list(plan))}
                self.assertEqual(breaks(table, turned), breaks(table, plan))


if __name__ == "__main__":
    unittest.main()
