"""Point 17, and point 2 for it."""

import copy
import random
import unittest

from making import (
    alone, behind, dilemma, drawn_kept, drawn_table, few_table, pennies, plays_of, pure, spoil, trio, two_hands, whole)
from mixplay.beaten import weighed
from mixplay.errors import NoChoice
from mixplay.tables import Table
from papers import Papers


def for_first(rows):
    """A table where the first hand earns these whole numbers, and the second nothing."""
    return two_hands([[(number, 0) for number in row] for row in rows])


class Known(Papers):
    def test_beaten_by_another_choice(self):
        for hand in (0, 1):
            self.assertEqual(weighed(dilemma(), hand, 0), ("beaten", whole(0, 1)))
            self.assertEqual(self.weigh(dilemma(), hand, 1), "belief")

    def test_nothing_is_beaten(self):
        for hand, choice in plays_of([2, 2]):
            self.assertEqual(self.weigh(pennies(), hand, choice), "belief")

    def test_beaten_by_a_mixing_alone(self):
        table = for_first([[6, 0], [0, 6], [2, 2]])
        self.assertEqual(self.weigh(table, 0, 2), "beaten")
        for kept in ([[0, 2], [0, 1]], [[1, 2], [0, 1]], [[2], [0, 1]]):
            self.assertEqual(self.weigh(table, 0, 2, kept), "belief")

    def test_as_good_as_a_mixing_is_not_beaten(self):
        self.assertEqual(self.weigh(for_first([[2, 0], [0, 2], [1, 1]]), 0, 2), "belief")
        self.assertEqual(weighed(for_first([[2, 0], [0, 2], [1, 1]]), 0, 2)[1], {(0,): (1, 2), (1,): (1, 2)})
        self.assertEqual(self.weigh(for_first([[3, 3], [3, 3]]), 0, 0), "belief")
        self.assertEqual(self.weigh(for_first([[3, 3], [3, 3]]), 0, 1), "belief")

    def test_as_good_against_one_rest_alone_is_not_beaten(self):
        table = for_first([[1, 5, 5], [1, 0, 0]])
        self.assertEqual(weighed(table, 0, 1), ("belief", {(0,): (1, 1), (1,): (0, 1), (2,): (0, 1)}))
        self.assertEqual(self.weigh(table, 0, 1, [[0, 1], [1, 2]]), "beaten")

    def test_worse_by_little(self):
        great = 10 ** 300
        table = Table([2, 1], {(0, 0): [(great, great + 1), (0, 1)], (1, 0): [(great + 1, great + 2), (0, 1)]})
        self.assertEqual(weighed(table, 0, 0), ("beaten", whole(0, 1)))
        self.assertEqual(weighed(table, 0, 1), ("belief", {(0,): (1, 1)}))

    def test_what_is_not_kept_has_no_part(self):
        table = behind()
        self.assertEqual(self.weigh(table, 0, 1), "belief")
        self.assertEqual(weighed(table, 0, 1, [[0, 1], [0, 1]]), ("beaten", whole(1, 0)))
        self.assertEqual(self.weigh(table, 1, 0), "belief")
        self.assertEqual(weighed(table, 1, 0, [[0], [0, 1]]), ("beaten", whole(0, 1, 0)))
        self.assertEqual(weighed(table, 1, 0, [[1], [0, 1]]), ("belief", {(1,): (1, 1)}))

    def test_a_hand_with_one_kept_choice(self):
        self.assertEqual(weighed(dilemma(), 0, 0, [[0], [1]]), ("belief", {(1,): (1, 1)}))
        self.assertEqual(self.weigh(dilemma(), 0, 0, [[0], [0, 1]]), "belief")
        self.assertEqual(self.weigh(trio(), 1, 0), "belief")
        self.assertEqual(weighed(Table([1, 1], {(0, 0): whole(-3, 4)}), 1, 0), ("belief", {(0,): (1, 1)}))

    def test_rests_of_one_hand(self):
        self.assertEqual(weighed(alone([5, 7, 7]), 0, 0)[0], "beaten")
        self.assertEqual(weighed(alone([5, 7, 7]), 0, 1), ("belief", {(0,): (1, 1)}))
        self.assertEqual(weighed(alone([5, 7, 7]), 0, 2), ("belief", {(0,): (1, 1)}))

    def test_three_hands(self):
        self.assertEqual(weighed(trio(), 0, 0), ("beaten", whole(0, 1)))
        self.assertEqual(self.weigh(trio(), 0, 1), "belief")
        # With the first hand's choice 0 the third earns nothing, whatever it takes.
        for choice in range(3):
            self.assertEqual(self.weigh(trio(), 2, choice), "belief")
        self.assertEqual(weighed(trio(), 2, 1, [[1], [0], [0, 1, 2]]), ("beaten", pure(3, 2)))

    def test_a_belief_that_no_two_mixings_make(self):
        # Choice 1 is best only where the others are believed to take the same, now the one and now the other.
        earned = {(0, 0): (8, 4, 0, 3), (0, 1): (0, 0, 0, 3), (1, 0): (0, 0, 0, 3), (1, 1): (0, 4, 8, 3)}
        cells = {play: whole(earned[play[1:]][play[0]], 0, 0) for play in plays_of([4, 2, 2])}
        table = Table([4, 2, 2], cells)
        for choice in range(4):
            self.assertEqual(self.weigh(table, 0, choice), "belief")
        weights = weighed(table, 0, 1)[1]
        self.assertEqual(weights[(0, 0)], weights[(1, 1)])
        self.assertGreater(weights[(0, 0)][0], 0)


class Drawn(Papers):
    def weigh_all(self, table, kept=None):
        """Each kept choice of each hand; gives the texts back."""
        sizes = table.sizes()
        choices = [range(size) for size in sizes] if kept is None else kept
        return [self.weigh(table, hand, choice, kept) for hand in range(len(sizes)) for choice in choices[hand]]

    def weigh_drawn(self, many, most):
        """Drawn tables of up to so many choices for each hand, with all and with some choices kept."""
        chance = random.Random(17)
        texts = []
        for time in range(many):
            sizes = [chance.randint(1, size) for size in most]
            table = few_table(sizes, chance) if time % 2 else drawn_table(sizes, chance)
            texts.extend(self.weigh_all(table))
            texts.extend(self.weigh_all(table, drawn_kept(sizes, chance)))
        self.assertGreater(texts.count("beaten"), many)
        self.assertGreater(texts.count("belief"), many)

    def test_tables_of_two_hands(self):
        self.weigh_drawn(120, [6, 6])

    def test_tables_of_three_hands(self):
        self.weigh_drawn(60, [3, 4, 3])

    def test_all_kept_handed_in_is_none_handed_in(self):
        chance = random.Random(17)
        for sizes in ([3, 3], [2, 3, 2]):
            table = few_table(sizes, chance)
            kept = [list(range(size)) for size in sizes]
            for hand, size in enumerate(sizes):
                for choice in range(size):
                    self.assertEqual(weighed(table, hand, choice, kept)[0], weighed(table, hand, choice, None)[0])

    def test_six_of_each(self):
        chance = random.Random(17)
        self.weigh_all(few_table([6, 6, 6], chance))
        self.weigh_all(drawn_table([6, 6, 6], chance), [[1, 3, 5], [0, 2, 4, 5], [0, 1, 2, 3, 4, 5]])

    def test_many_figures(self):
        chance = random.Random(17)
        self.weigh_all(drawn_table([3, 3], chance, 60))
        self.weigh_all(drawn_table([2, 2, 2], chance, 300))


class Refused(Papers):
    def refused(self, table, hand, choice, *kept):
        told = self.assert_refused(NoChoice, weighed, table, hand, choice, *kept)
        self.assertEqual((told.hand, told.choice), (hand, choice))

    def test_a_choice_that_the_hand_does_not_have(self):
        for table in (pennies(), behind(), trio()):
            kept = [list(range(size)) for size in table.sizes()]
            for hand, size in enumerate(table.sizes()):
                for choice in (-1, -size, size, size + 1, 10 ** 5000, -10 ** 5000):
                    self.refused(table, hand, choice)
                    self.refused(table, hand, choice, None)
                    self.refused(table, hand, choice, kept)

    def test_a_choice_that_is_not_kept(self):
        self.refused(pennies(), 0, 1, [[0], [0, 1]])
        self.refused(pennies(), 1, 0, [[0], [1]])
        self.refused(trio(), 2, 1, [[0], [0], [0, 2]])
        self.refused(trio(), 0, 0, [[1], [0], [0, 1, 2]])

    def test_another_hands_kept_choices_are_not_its_own(self):
        self.refused(behind(), 0, 2)
        self.refused(behind(), 0, 2, [[0, 1], [0, 1, 2]])
        self.refused(behind(), 0, 0, [[1], [0, 1, 2]])


class Owned(Papers):
    def test_told_papers_are_the_askers_own(self):
        kept = [[0, 1], [0, 1]]
        for table, hand, choice in ((dilemma(), 0, 0), (dilemma(), 0, 1), (pennies(), 1, 0), (behind(), 0, 1)):
            for more in ([], [kept]):
                first = weighed(table, hand, choice, *more)
                before = copy.deepcopy(first)
                spoil(weighed(table, hand, choice, *more))
                self.assertEqual(first, before)
                self.assertEqual(weighed(table, hand, choice, *more), before)
        self.assertEqual(kept, [[0, 1], [0, 1]])

    def test_the_kept_choices_are_changed_later(self):
        kept = [[0, 1], [0, 1]]
        told = weighed(dilemma(), 0, 1, kept)
        before = copy.deepcopy(told)
        kept[1].remove(0)
        kept[0].clear()
        self.assertEqual(told, before)


if __name__ == "__main__":
    unittest.main()
