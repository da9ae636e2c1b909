"""Point 11, and point 2 for it."""

import random
import unittest

from making import alone, dilemma, drawn_table, meant, pennies, plays_of, trio, whole
from mixplay.errors import NoChoice
from mixplay.sure import going_off, sure_points
from mixplay.tables import Table


def meeting():
    """Two hands earn where they take the same; at the last of three meetings they earn nothing."""
    cells = {play: whole(0, 0) for play in plays_of([3, 3])}
    cells[(0, 0)] = whole(1, 2)
    cells[(1, 1)] = whole(2, 1)
    return Table([3, 3], cells)


class GoingOff(unittest.TestCase):
    def test_no_hand(self):
        self.assertIsNone(going_off(dilemma(), (1, 1)))
        self.assertIsNone(going_off(meeting(), (0, 0)))
        self.assertIsNone(going_off(meeting(), (1, 1)))

    def test_nobody_goes_off_for_as_much(self):
        self.assertIsNone(going_off(meeting(), (2, 2)))
        self.assertIsNone(going_off(alone([3, 3, 3]), (2, 0)))
        self.assertIsNone(going_off(alone([3, 1, 3]), (2, 0)))

    def test_the_first_hand(self):
        self.assertEqual(going_off(dilemma(), (0, 1)), (0, 1))
        self.assertEqual(going_off(pennies(), (0, 1)), (0, 1))
        self.assertEqual(going_off(pennies(), (1, 0)), (0, 0))

    def test_the_first_of_several_hands(self):
        self.assertEqual(going_off(dilemma(), (0, 0)), (0, 1))
        self.assertEqual(going_off(trio(), (0, 0, 0)), (0, 1))

    def test_a_later_hand(self):
        self.assertEqual(going_off(dilemma(), (1, 0)), (1, 1))
        self.assertEqual(going_off(pennies(), (0, 0)), (1, 1))
        self.assertEqual(going_off(pennies(), (1, 1)), (1, 0))
        self.assertEqual(going_off(trio(), (1, 0, 0)), (2, 2))
        self.assertEqual(going_off(trio(), (1, 0, 1)), (2, 2))

    def test_the_middle_one_of_three(self):
        cells = {play: whole(0, play[1], 0) for play in plays_of([2, 3, 2])}
        self.assertEqual(going_off(Table([2, 3, 2], cells), (1, 0, 1)), (1, 2))
        self.assertIsNone(going_off(Table([2, 3, 2], cells), (1, 2, 1)))

    def test_the_choice_that_earns_most(self):
        self.assertEqual(going_off(alone([0, 1, 2, 1]), (0, 0)), (0, 2))
        self.assertEqual(going_off(alone([5, 1, 2, 1]), (3, 0)), (0, 0))
        self.assertEqual(going_off(alone([-5, -3, -2, -1]), (2, 0)), (0, 3))

    def test_the_least_of_several_best_choices(self):
        self.assertEqual(going_off(alone([0, 7, 5, 7, 7]), (0, 0)), (0, 1))
        self.assertEqual(going_off(alone([0, 7, 5, 7, 7]), (2, 0)), (0, 1))
        self.assertEqual(going_off(alone([7, 7, 5, 7, 7]), (2, 0)), (0, 0))

    def test_hands_with_one_choice(self):
        self.assertIsNone(going_off(Table([1, 1], {(0, 0): whole(-3, 4)}), (0, 0)))
        self.assertIsNone(going_off(Table([1, 1, 1], {(0, 0, 0): whole(-3, 4, 0)}), (0, 0, 0)))
        one_has = Table([1, 3], {(0, 0): whole(1, 1), (0, 1): whole(9, 0), (0, 2): whole(9, 4)})
        self.assertEqual(going_off(one_has, (0, 0)), (1, 2))
        self.assertIsNone(going_off(one_has, (0, 2)))

    def test_fractions_of_many_figures(self):
        great = 10 ** 5000
        table = Table([2, 1], {(0, 0): [(great, great + 1), (0, 1)], (1, 0): [(great + 1, great + 2), (0, 1)]})
        self.assertEqual(going_off(table, (0, 0)), (0, 1))
        self.assertIsNone(going_off(table, (1, 0)))


class SurePoints(unittest.TestCase):
    def test_none_at_all(self):
        self.assertEqual(sure_points(pennies()), [])

    def test_one(self):
        self.assertEqual(sure_points(dilemma()), [(1, 1)])
        self.assertEqual(sure_points(trio()), [(1, 0, 2)])
        self.assertEqual(sure_points(Table([1, 1], {(0, 0): whole(-3, 4)})), [(0, 0)])

    def test_several_in_order(self):
        self.assertEqual(sure_points(meeting()), [(0, 0), (1, 1), (2, 2)])
        self.assertEqual(sure_points(alone([7, 5, 7])), [(0, 0), (2, 0)])

    def test_all_where_all_earns_alike(self):
        for sizes in ([2, 3], [6, 6], [2, 1, 3]):
            table = Table(sizes, {play: whole(*sizes) for play in plays_of(sizes)})
            self.assertEqual(sure_points(table), plays_of(sizes))


class SecondReckoning(unittest.TestCase):
    def earned(self, table, play, hand, choice):
        changed = list(play)
        changed[hand] = choice
        return meant(table.earned(tuple(changed))[hand])

    def expected(self, table, play):
        for hand, size in enumerate(table.sizes()):
            there = [self.earned(table, play, hand, choice) for choice in range(size)]
            better = [choice for choice in range(size) if there[choice] > there[play[hand]]]
            if better:
                return (hand, min(better, key=lambda choice: (-there[choice], choice)))
        return None

    def check(self, table):
        answers = {}
        for play in plays_of(table.sizes()):
            answers[play] = self.expected(table, play)
            self.assertEqual(going_off(table, play), answers[play])
        self.assertEqual(sure_points(table), [play for play in sorted(answers) if answers[play] is None])
        return [None if answer is None else answer[0] for answer in answers.values()]

    def test_drawn_tables(self):
        chance = random.Random(11)
        seen = set()
        for sizes in ([1, 1], [2, 2], [3, 2], [1, 4], [6, 6], [2, 2, 2], [1, 1, 1], [3, 1, 2], [2, 4, 3]):
            for time in range(12):
                # Few earnings, so that many are alike.
                cells = {play: whole(*[chance.randint(-1, 2) for size in sizes]) for play in plays_of(sizes)}
                with self.subTest(sizes=sizes, time=time):
                    seen.update(self.check(Table(sizes, cells)))
        self.assertEqual(seen, {None, 0, 1, 2})

    def test_drawn_fractions(self):
        chance = random.Random(11)
        for sizes, figures in (([3, 3], 1), ([2, 3, 2], 1), ([2, 2], 80), ([6, 6, 6], 1)):
            self.check(drawn_table(sizes, chance, figures))


class Refused(unittest.TestCase):
    def refused(self, table, play, hand, choice):
        with self.assertRaises(NoChoice) as caught:
            going_off(table, play)
        self.assertEqual((caught.exception.hand, caught.exception.choice), (hand, choice))

    def test_each_hand_of_two(self):
        for table in (pennies(), dilemma()):
            for choice in (-1, -2, 2, 3, 10 ** 5000):
                for other in (0, 1):
                    self.refused(table, (choice, other), 0, choice)
                    self.refused(table, (other, choice), 1, choice)

    def test_each_hand_of_three(self):
        for hand, size in enumerate([2, 1, 3]):
            for choice in (-1, -size, size, size + 1):
                for right in plays_of([2, 1, 3]):
                    self.refused(trio(), right[:hand] + (choice,) + right[hand + 1:], hand, choice)

    def test_the_first_such_hand_is_kept(self):
        self.refused(pennies(), (5, -7), 0, 5)
        self.refused(pennies(), (-1, 2), 0, -1)
        self.refused(trio(), (0, 4, -1), 1, 4)
        self.refused(trio(), (-1, 4, 9), 0, -1)
        self.refused(trio(), (2, 0, 9), 0, 2)


class Owned(unittest.TestCase):
    def test_told_points_are_the_askers_own(self):
        table = meeting()
        first = sure_points(table)
        second = sure_points(table)
        second.append((9, 9))
        second[0] = (9, 9)
        self.assertEqual(first, [(0, 0), (1, 1), (2, 2)])
        self.assertEqual(sure_points(table), [(0, 0), (1, 1), (2, 2)])

    def test_the_table_stays(self):
        table = trio()
        for play in plays_of([2, 1, 3]):
            going_off(table, play)
        sure_points(table).clear()
        self.assertEqual(table.sizes(), [2, 1, 3])
        for play in plays_of([2, 1, 3]):
            self.assertEqual(table.earned(play), trio().earned(play))

    def test_kinds(self):
        self.assertIs(type(going_off(pennies(), (0, 0))), tuple)
        self.assertEqual([type(part) for part in going_off(pennies(), (0, 0))], [int, int])
        self.assertIs(type(sure_points(meeting())), list)
        self.assertIs(type(sure_points(meeting())[0]), tuple)


if __name__ == "__main__":
    unittest.main()
