"""Point 18, and point 2 for it."""

import copy
import random
import unittest

from making import (
    alone, behind, dilemma, drawn_table, few_table, pennies, plays_of, pure, spoil, trio, two_hands, whole)
from mixplay.errors import NoOrder
from mixplay.rounds import rounds
from mixplay.tables import Table
from papers import Papers


def pairs_of(sizes):
    return [(hand, choice) for hand, size in enumerate(sizes) for choice in range(size)]


class Known(Papers):
    def test_nothing_is_beaten(self):
        kept, log = self.take_out(pennies())
        self.assertEqual((kept, log), ([[0, 1], [0, 1]], []))
        alike = Table([2, 3, 2], {play: whole(4, 4, 4) for play in plays_of([2, 3, 2])})
        self.assertEqual(self.take_out(alike), ([[0, 1], [0, 1, 2], [0, 1]], []))

    def test_each_hand_keeps_one(self):
        self.assertEqual(rounds(dilemma()), (
            [[1], [1]], [(0, 0, whole(0, 1)), (1, 0, whole(0, 1))],
            {(0, 1): {(1,): (1, 1)}, (1, 1): {(1,): (1, 1)}}))

    def test_beaten_only_behind_others(self):
        self.assertEqual(rounds(behind()), (
            [[0], [1]], [(1, 2, pure(3, 1)), (0, 1, pure(2, 0)), (1, 0, pure(3, 1))],
            {(0, 0): {(1,): (1, 1)}, (1, 1): {(0,): (1, 1)}}))

    def test_taken_out_at_once(self):
        # In one way through, each behind the one ahead of it.
        order = [(1, 2), (0, 1), (1, 0), (0, 0), (1, 1)]
        self.assertEqual(self.take_out(behind(), order), ([[0], [1]], [(1, 2), (0, 1), (1, 0)]))
        # In three ways through, one in each.
        order = [(1, 0), (0, 1), (1, 2), (0, 0), (1, 1)]
        self.assertEqual(self.take_out(behind(), order), ([[0], [1]], [(1, 2), (0, 1), (1, 0)]))

    def test_as_good_as_another_is_not_taken_out(self):
        self.assertEqual(self.take_out(alone([7, 5, 7])), ([[0, 2], [0]], [(0, 1)]))
        table = two_hands([[(1, 0), (5, 0)], [(1, 0), (0, 0)]])
        self.assertEqual(self.take_out(table), ([[0, 1], [0, 1]], []))

    def test_beaten_by_a_mixing_alone(self):
        table = two_hands([[(6, 0), (0, 0)], [(0, 0), (6, 0)], [(2, 0), (2, 0)]])
        self.assertEqual(self.take_out(table), ([[0, 1], [0, 1]], [(0, 2)]))

    def test_a_mixing_of_what_was_kept_then(self):
        # Choice 0 is beaten by choice 1, and that by choice 2: taken out later, it may not name choice 0.
        for order in ([(0, 0), (0, 1), (0, 2), (1, 0)], [(0, 1), (0, 0), (0, 2), (1, 0)]):
            self.assertEqual(self.take_out(alone([1, 2, 3]), order)[0], [[2], [0]])
            self.assertEqual(rounds(alone([1, 2, 3]), order)[1][1][2], pure(3, 2))

    def test_three_hands(self):
        kept, log = self.take_out(trio())
        self.assertEqual((kept, log), ([[1], [0], [2]], [(0, 0), (2, 0), (2, 1)]))

    def test_hands_of_one_choice(self):
        self.assertEqual(rounds(Table([1, 1], {(0, 0): whole(-3, 4)})), (
            [[0], [0]], [], {(0, 0): {(0,): (1, 1)}, (1, 0): {(0,): (1, 1)}}))
        self.assertEqual(rounds(Table([1, 1, 1], {(0, 0, 0): whole(-3, 4, 0)}))[0], [[0], [0], [0]])


class Drawn(Papers):
    def check(self, table, chance, times=3):
        """No order and drawn orders; gives back how many are taken out."""
        kept, log = self.take_out(table)
        for time in range(times):
            order = pairs_of(table.sizes())
            chance.shuffle(order)
            self.assertEqual(self.take_out(table, order)[0], kept)
        return len(log)

    def test_tables_of_two_hands(self):
        chance = random.Random(18)
        taken = []
        for time in range(60):
            sizes = [chance.randint(1, 6), chance.randint(1, 6)]
            table = few_table(sizes, chance, -4, 4) if time % 2 else drawn_table(sizes, chance)
            taken.append(self.check(table, chance))
        self.assertEqual([many for many in (0, 1, 2, 3, 4, 5, 6) if many not in taken], [])

    def test_tables_of_three_hands(self):
        chance = random.Random(18)
        taken = []
        for time in range(30):
            sizes = [chance.randint(1, 3), chance.randint(1, 3), chance.randint(1, 4)]
            taken.append(self.check(few_table(sizes, chance, -4, 4), chance))
        self.assertEqual([many for many in (0, 1, 2, 3) if many not in taken], [])

    def test_many_are_taken_out(self):
        # A hand earns most by a quarter of what the others take together, so that great choices go first.
        sizes = [6, 6, 6]
        cells = {}
        for play in plays_of(sizes):
            cells[play] = whole(*[-(4 * choice - (sum(play) - choice)) ** 2 for choice in play])
        table = Table(sizes, cells)
        self.assertGreater(self.check(table, random.Random(18)), 10)

    def test_six_of_each(self):
        chance = random.Random(18)
        self.check(few_table([6, 6, 6], chance), chance, 1)

    def test_many_figures(self):
        chance = random.Random(18)
        self.check(drawn_table([3, 3], chance, 80), chance)
        self.check(drawn_table([2, 2, 2], chance, 80), chance)

    def test_an_order_that_is_the_one_of_none(self):
        chance = random.Random(18)
        for sizes in ([4, 4], [3, 2, 3]):
            table = few_table(sizes, chance)
            self.assertEqual(rounds(table, pairs_of(sizes)), rounds(table))
            self.assertEqual(rounds(table, None), rounds(table))


class Refused(Papers):
    def refused(self, table, order):
        self.assert_refused(NoOrder, rounds, table, order)

    def test_a_pair_less(self):
        for table in (pennies(), trio()):
            pairs = pairs_of(table.sizes())
            for at in range(len(pairs)):
                self.refused(table, pairs[:at] + pairs[at + 1:])

    def test_a_pair_twice(self):
        for table in (pennies(), trio()):
            pairs = pairs_of(table.sizes())
            for pair in pairs:
                self.refused(table, pairs + [pair])
                self.refused(table, [pair] + pairs)
            self.refused(table, pairs + pairs)
            self.refused(table, pairs[:-1] + pairs[:1])
            self.refused(table, pairs[:1] + pairs[:-1])

    def test_a_pair_that_is_none(self):
        for table, wrong in ((pennies(), [(0, 2), (2, 0), (-1, 0), (0, -1), (10 ** 5000, 0), (1, -10 ** 5000)]),
                             (trio(), [(1, 1), (3, 0), (0, 2), (2, 3), (-3, 0), (2, -1)])):
            pairs = pairs_of(table.sizes())
            for pair in wrong:
                self.refused(table, pairs + [pair])
                self.refused(table, [pair] + pairs)
                for at in range(len(pairs)):
                    self.refused(table, pairs[:at] + [pair] + pairs[at + 1:])

    def test_an_empty_list(self):
        self.refused(pennies(), [])
        self.refused(Table([1, 1], {(0, 0): whole(-3, 4)}), [])

    def test_pairs_of_choice_and_hand(self):
        self.refused(trio(), [(choice, hand) for hand, choice in pairs_of([2, 1, 3])])


class Owned(Papers):
    def test_told_lists_and_dicts_are_the_askers_own(self):
        for table in (pennies(), dilemma(), behind(), trio(), alone([1, 2, 3, 3])):
            order = pairs_of(table.sizes())[::-1]
            for more in ([], [order]):
                first = rounds(table, *more)
                before = copy.deepcopy(first)
                spoil(rounds(table, *more))
                self.assertEqual(first, before)
                self.assertEqual(rounds(table, *more), before)
            self.assertEqual(order, pairs_of(table.sizes())[::-1])

    def test_the_order_is_changed_later(self):
        order = pairs_of([2, 3])
        told = rounds(behind(), order)
        before = copy.deepcopy(told)
        order.clear()
        self.assertEqual(told, before)


if __name__ == "__main__":
    unittest.main()
