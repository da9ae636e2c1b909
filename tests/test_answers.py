"""Points 9 and 10, and point 2 for them."""

import copy
import random
import unittest
from fractions import Fraction

from making import drawn_mixings, drawn_table, meant, pennies, plays_of, pure, told, trio, whole
from mixplay.answers import answers, earned_by, gains, is_mixing
from mixplay.errors import NoMixing
from mixplay.tables import Table

HALVES = [(1, 2), (1, 2)]


class Mixing(unittest.TestCase):
    def test_mixings(self):
        self.assertIs(is_mixing([(1, 1)], 1), True)
        self.assertIs(is_mixing([(1, 2), (1, 2)], 2), True)
        self.assertIs(is_mixing([(0, 1), (1, 1), (0, 1)], 3), True)
        self.assertIs(is_mixing([(1, 2), (1, 3), (1, 6)], 3), True)
        self.assertIs(is_mixing([(1, 6)] * 6, 6), True)

    def test_an_entry_less_or_more(self):
        self.assertIs(is_mixing([(1, 2), (1, 2)], 3), False)
        self.assertIs(is_mixing([(1, 2), (1, 2), (0, 1)], 2), False)
        self.assertIs(is_mixing([(1, 1)], 2), False)
        self.assertIs(is_mixing([(1, 1), (0, 1)], 1), False)
        self.assertIs(is_mixing([], 1), False)
        self.assertIs(is_mixing([], 2), False)

    def test_an_entry_below_nothing(self):
        self.assertIs(is_mixing([(3, 2), (-1, 2)], 2), False)
        self.assertIs(is_mixing([(-1, 2), (3, 2)], 2), False)
        self.assertIs(is_mixing([(1, 1), (1, 10 ** 50), (-1, 10 ** 50)], 3), False)

    def test_a_sum_that_is_not_one(self):
        self.assertIs(is_mixing([(1, 2), (1, 3)], 2), False)
        self.assertIs(is_mixing([(1, 2), (2, 3)], 2), False)
        self.assertIs(is_mixing([(0, 1), (0, 1)], 2), False)
        self.assertIs(is_mixing([(1, 1), (1, 1)], 2), False)
        self.assertIs(is_mixing([(2, 1)], 1), False)

    def test_a_sum_that_is_nearly_one(self):
        great = 10 ** 60
        self.assertIs(is_mixing([(1, great), (great - 1, great)], 2), True)
        self.assertIs(is_mixing([(1, great), (great - 2, great)], 2), False)
        self.assertIs(is_mixing([(1, great), (1, 1)], 2), False)

    def test_the_list_stays(self):
        weights = [(1, 2), (1, 3), (1, 6)]
        is_mixing(weights, 3)
        self.assertEqual(weights, [(1, 2), (1, 3), (1, 6)])


class TwoHands(unittest.TestCase):
    def test_halves_at_pennies_are_a_point(self):
        mixings = [HALVES, HALVES]
        self.assertEqual(earned_by(pennies(), mixings), whole(0, 0))
        self.assertEqual(answers(pennies(), mixings, 0), whole(0, 0))
        self.assertEqual(answers(pennies(), mixings, 1), whole(0, 0))
        self.assertEqual(gains(pennies(), mixings), whole(0, 0))

    def test_a_sure_choice_at_pennies(self):
        mixings = [pure(2, 0), [(1, 3), (2, 3)]]
        self.assertEqual(earned_by(pennies(), mixings), [(-1, 3), (1, 3)])
        self.assertEqual(answers(pennies(), mixings, 0), [(-1, 3), (1, 3)])
        self.assertEqual(answers(pennies(), mixings, 1), whole(-1, 1))
        self.assertEqual(gains(pennies(), mixings), [(2, 3), (2, 3)])

    def test_unlike_sizes(self):
        table = Table([1, 3], {
            (0, 0): [(1, 2), (3, 1)], (0, 1): [(1, 3), (-5, 1)], (0, 2): [(6, 1), (7, 2)],
        })
        mixings = [[(1, 1)], [(1, 2), (1, 2), (0, 1)]]
        self.assertEqual(earned_by(table, mixings), [(5, 12), (-1, 1)])
        self.assertEqual(answers(table, mixings, 0), [(5, 12)])
        self.assertEqual(answers(table, mixings, 1), [(3, 1), (-5, 1), (7, 2)])
        self.assertEqual(gains(table, mixings), [(0, 1), (9, 2)])

    def test_all_earnings_below_nothing(self):
        table = Table([2, 1], {(0, 0): whole(-3, -4), (1, 0): whole(-2, -9)})
        mixings = [pure(2, 0), [(1, 1)]]
        self.assertEqual(answers(table, mixings, 0), whole(-3, -2))
        self.assertEqual(gains(table, mixings), whole(1, 0))

    def test_the_hands_own_mixing_has_no_part_in_its_answers(self):
        for own in (HALVES, pure(2, 0), pure(2, 1)):
            self.assertEqual(answers(pennies(), [own, [(1, 4), (3, 4)]], 0), [(-1, 2), (1, 2)])
            self.assertEqual(answers(pennies(), [[(1, 4), (3, 4)], own], 1), [(1, 2), (-1, 2)])


class ThreeHands(unittest.TestCase):
    mixings = [[(1, 4), (3, 4)], [(1, 1)], [(1, 2), (0, 1), (1, 2)]]

    def test_earned_by(self):
        self.assertEqual(earned_by(trio(), self.mixings), [(76, 1), (37, 4), (3, 4)])

    def test_answers(self):
        self.assertEqual(answers(trio(), self.mixings, 0), whole(1, 101))
        self.assertEqual(answers(trio(), self.mixings, 1), [(37, 4)])
        self.assertEqual(answers(trio(), self.mixings, 2), [(0, 1), (3, 4), (3, 2)])

    def test_gains(self):
        self.assertEqual(gains(trio(), self.mixings), [(25, 1), (0, 1), (3, 4)])

    def test_a_play_taken_for_sure_earns_what_the_table_tells(self):
        for play in plays_of([2, 1, 3]):
            mixings = [pure(size, choice) for size, choice in zip([2, 1, 3], play)]
            self.assertEqual(earned_by(trio(), mixings), trio().earned(play))


class SecondReckoning(unittest.TestCase):
    def earned(self, table, mixings, hand):
        total = Fraction(0)
        for play in plays_of(table.sizes()):
            chance = Fraction(1)
            for other, choice in enumerate(play):
                chance *= meant(mixings[other][choice])
            total += chance * meant(table.earned(play)[hand])
        return total

    def answer(self, table, mixings, hand, choice):
        swapped = list(mixings)
        swapped[hand] = pure(table.sizes()[hand], choice)
        return self.earned(table, swapped, hand)

    def check(self, table, mixings):
        earned, gained = earned_by(table, mixings), gains(table, mixings)
        self.assertEqual(len(earned), len(table.sizes()))
        self.assertEqual(len(gained), len(table.sizes()))
        for hand, size in enumerate(table.sizes()):
            expected = [self.answer(table, mixings, hand, choice) for choice in range(size)]
            own = self.earned(table, mixings, hand)
            self.assertEqual(earned[hand], told(own))
            self.assertEqual(answers(table, mixings, hand), [told(number) for number in expected])
            self.assertEqual(gained[hand], told(max(expected) - own))
            self.assertGreaterEqual(gained[hand][0], 0)

    def test_drawn_tables(self):
        chance = random.Random(10)
        for sizes in ([2, 2], [1, 1], [3, 4], [1, 6], [6, 6], [2, 2, 2], [1, 3, 2], [4, 1, 3], [1, 1, 1]):
            for time in range(6):
                with self.subTest(sizes=sizes, time=time):
                    self.check(drawn_table(sizes, chance), drawn_mixings(sizes, chance))

    def test_the_greatest_table(self):
        chance = random.Random(10)
        self.check(drawn_table([6, 6, 6], chance), drawn_mixings([6, 6, 6], chance))

    def test_many_figures(self):
        chance = random.Random(10)
        self.check(drawn_table([2, 3], chance, 150), drawn_mixings([2, 3], chance))
        self.check(drawn_table([2, 2, 2], chance, 60), drawn_mixings([2, 2, 2], chance))


class Refused(unittest.TestCase):
    def refused(self, table, mixings, hand):
        asks = [lambda: earned_by(table, mixings), lambda: gains(table, mixings)]
        for own in range(len(table.sizes())):
            asks.append(lambda own=own: answers(table, mixings, own))
        for ask in asks:
            with self.assertRaises(NoMixing) as caught:
                ask()
            self.assertEqual(caught.exception.hand, hand)

    def wrong_lists(self, size):
        return (
            pure(size, 0) + [(0, 1)], pure(size, 0)[1:], [(0, 1)] * size,
            [(1, 2)] + [(0, 1)] * (size - 1), [(3, 2)] + [(0, 1)] * (size - 1), [],
        )

    def test_each_hand_of_two(self):
        for wrong in self.wrong_lists(2) + ([(3, 2), (-1, 2)],):
            self.refused(pennies(), [wrong, HALVES], 0)
            self.refused(pennies(), [HALVES, wrong], 1)

    def test_each_hand_of_three(self):
        right = [pure(2, 1), pure(1, 0), pure(3, 2)]
        for hand, size in enumerate([2, 1, 3]):
            for wrong in self.wrong_lists(size):
                self.refused(trio(), right[:hand] + [wrong] + right[hand + 1:], hand)

    def test_the_first_such_hand_is_kept(self):
        self.refused(pennies(), [[(1, 1)], [(1, 1)]], 0)
        self.refused(trio(), [pure(2, 0), [], []], 1)
        self.refused(trio(), [[], pure(1, 0), []], 0)
        self.refused(trio(), [[], [], []], 0)

    def test_a_list_of_another_hands_size(self):
        self.refused(trio(), [pure(3, 0), pure(1, 0), pure(2, 0)], 0)


class Owned(unittest.TestCase):
    def test_the_mixings_stay(self):
        mixings = [[(1, 4), (3, 4)], [(1, 1)], [(1, 2), (0, 1), (1, 2)]]
        before = copy.deepcopy(mixings)
        inner = list(mixings)
        table = trio()
        earned_by(table, mixings)
        gains(table, mixings)
        for hand in range(3):
            answers(table, mixings, hand)
        self.assertEqual(mixings, before)
        for one, other in zip(mixings, inner):
            self.assertIs(one, other)

    def test_refused_mixings_stay(self):
        mixings = [[(1, 2), (1, 2)], [(1, 1)]]
        for ask in (earned_by, gains):
            with self.assertRaises(NoMixing):
                ask(pennies(), mixings)
        self.assertEqual(mixings, [[(1, 2), (1, 2)], [(1, 1)]])

    def test_told_lists_are_the_askers_own(self):
        table, mixings = pennies(), [pure(2, 0), HALVES]
        asks = (earned_by, gains, lambda game, given: answers(game, given, 0))
        for ask in asks:
            first = ask(table, mixings)
            before = list(first)
            second = ask(table, mixings)
            second.append((9, 1))
            second[0] = (9, 1)
            self.assertEqual(first, before)
            self.assertEqual(ask(table, mixings), before)
            self.assertIs(type(first), list)

    def test_the_table_stays(self):
        table = trio()
        gains(table, ThreeHands.mixings)[0] = (9, 1)
        for play in plays_of([2, 1, 3]):
            self.assertEqual(table.earned(play), trio().earned(play))


if __name__ == "__main__":
    unittest.main()
