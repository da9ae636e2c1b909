"""Point 3: the promise over the whole program, on drawn tables; and point 2 over all of it."""

import copy
import random
import unittest
from fractions import Fraction

from making import (
    behind, daring, dilemma, drawn_goal, drawn_rows, drawn_table, few_table, losing_table, meant, pennies, plays_of,
    pure, spoil, taken, told, trio, whole)
from mixplay.advice import advice, breaks
from mixplay.answers import answers, earned_by, gains
from mixplay.beaten import weighed
from mixplay.labels import point
from mixplay.rounds import rounds
from mixplay.rows import cleared, plain, turned
from mixplay.steps import best
from mixplay.sure import going_off, sure_points
from mixplay.tables import Table, rests
from mixplay.worth import worth
from papers import Papers, cells_of


def drawn_tables(chance, many, hands, most):
    """Tables of many sizes: of fractions, of few earnings, and such that choices are beaten."""
    tables = []
    for time in range(many):
        sizes = [chance.randint(1, most) for hand in range(hands)]
        kind = time % 4
        if kind == 0:
            tables.append(drawn_table(sizes, chance))
        elif kind == 1:
            tables.append(few_table(sizes, chance))
        else:
            tables.append(sloping_table(sizes, chance))
    return tables


def sloping_table(sizes, chance):
    """Later choices mostly earn more, so that rounds take many out."""
    cells = {}
    for play in plays_of(sizes):
        cells[play] = whole(*[2 * choice + chance.randint(-3, 3) for choice in play])
    return Table(sizes, cells)


def joint_plan(sizes, mixings):
    """The chance of each play by mixings."""
    plan = {}
    for play in plays_of(sizes):
        weight = Fraction(1)
        for choice, mixing in zip(play, mixings):
            weight *= meant(mixing[choice])
        plan[play] = told(weight)
    return plan


def of_goal(goal, earned):
    return sum(meant(aim) * meant(number) for aim, number in zip(goal, earned))


class Agreements(Papers):
    def assert_taken_out_has_no_chance(self, table, goal):
        """In no sure point, in no advice and, of two hands, in no point; gives back how many are taken out."""
        sizes = table.sizes()
        gone = taken(sizes, rounds(table)[0])
        plan = self.advise(table, goal)[0]
        mixings = point(table) if len(sizes) == 2 else None
        for hand, choice in gone:
            self.assertFalse([play for play in sure_points(table) if play[hand] == choice])
            self.assertFalse([play for play in plan if play[hand] == choice and plan[play] != (0, 1)])
            if mixings is not None:
                self.assertEqual(mixings[hand][choice], (0, 1))
        return len(gone)

    def assert_none_has_more_than_advice(self, table, goal):
        """No sure point and no point; they are advice themselves. Gives back how many sure points there are."""
        sizes = table.sizes()
        most = meant(advice(table, goal)[2])
        sure = sure_points(table)
        found = [[pure(size, choice) for size, choice in zip(sizes, play)] for play in sure]
        if len(sizes) == 2:
            found.append(self.find_point(table))
        for mixings in found:
            self.assertEqual(gains(table, mixings), [(0, 1)] * len(sizes))
            self.assertLessEqual(of_goal(goal, earned_by(table, mixings)), most)
            self.assertIsNone(self.broken_by(table, joint_plan(sizes, mixings)))
        for play in sure:
            self.assertLessEqual(of_goal(goal, table.earned(play)), most)
        return len(sure)

    def check(self, table, chance):
        goal = drawn_goal(table.sizes(), chance)
        gone = self.assert_taken_out_has_no_chance(table, goal)
        return gone, self.assert_none_has_more_than_advice(table, goal)

    def check_all(self, tables, chance):
        found = [self.check(table, chance) for table in tables]
        # What is never met is never tested.
        self.assertGreater(sum(gone for gone, sure in found), len(tables))
        self.assertIn(0, [gone for gone, sure in found])
        self.assertGreater(sum(sure for gone, sure in found), len(tables) // 2)
        return found

    def test_two_hands(self):
        chance = random.Random(3)
        self.assertIn(0, [sure for gone, sure in self.check_all(drawn_tables(chance, 100, 2, 5), chance)])

    def test_three_hands(self):
        chance = random.Random(3)
        self.check_all(drawn_tables(chance, 40, 3, 3), chance)

    def test_six_of_each(self):
        chance = random.Random(3)
        for table in (sloping_table([6, 6], chance), drawn_table([6, 6], chance), sloping_table([6, 6, 6], chance)):
            self.check(table, chance)

    def test_known_tables(self):
        chance = random.Random(3)
        for table in (pennies(), dilemma(), behind(), daring(), trio()):
            self.check(table, chance)

    def test_each_choice_is_beaten_or_best_and_not_both(self):
        chance = random.Random(3)
        for table in drawn_tables(chance, 30, 2, 4) + drawn_tables(chance, 15, 3, 3):
            kept, log = self.take_out(table)
            for hand, size in enumerate(table.sizes()):
                for choice in range(size):
                    text = self.weigh(table, hand, choice)
                    if choice in kept[hand]:
                        self.assertEqual(text, "belief")
                        self.assertEqual(self.weigh(table, hand, choice, kept), "belief")
                    if text == "beaten":
                        self.assertIn((hand, choice), log)

    def test_rounds_in_whatever_order(self):
        chance = random.Random(3)
        for table in drawn_tables(chance, 20, 2, 5) + drawn_tables(chance, 12, 3, 3):
            kept, log = self.take_out(table)
            for time in range(3):
                order = [(hand, choice) for hand, size in enumerate(table.sizes()) for choice in range(size)]
                chance.shuffle(order)
                self.assertEqual(self.take_out(table, order)[0], kept)

    def test_what_is_kept_has_the_same_sure_points_and_advice(self):
        chance = random.Random(3)
        for table in drawn_tables(chance, 40, 2, 5):
            kept = rounds(table)[0]
            cells = {}
            for play in plays_of([len(choices) for choices in kept]):
                cells[play] = table.earned(tuple(choices[place] for choices, place in zip(kept, play)))
            smaller = Table([len(choices) for choices in kept], cells)
            goal = drawn_goal([1, 1], chance)
            self.assertEqual(len(sure_points(smaller)), len(sure_points(table)))
            self.assertEqual(advice(smaller, goal)[2], advice(table, goal)[2])


class Losing(Papers):
    def check(self, rows):
        table = losing_table(rows)
        number = meant(worth(rows)[0])
        mixings = self.find_point(table)
        self.assertEqual([meant(earned) for earned in earned_by(table, mixings)], [number, -number])
        for goal in (whole(1, 0), whole(0, 1), whole(-1, 0), whole(1, 1), whole(2, -3), [(1, 2), (1, 3)]):
            self.assertEqual(meant(self.advise(table, goal)[1]), (meant(goal[0]) - meant(goal[1])) * number)
        # The mixings that come with the worth are a point, too.
        self.assert_point(table, list(worth(rows)[1:]))
        for play in sure_points(table):
            self.assertEqual(meant(table.earned(play)[0]), number)

    def test_drawn_rows(self):
        chance = random.Random(3)
        for time in range(60):
            many, wide = chance.randint(1, 5), chance.randint(1, 5)
            self.check(drawn_rows(many, wide, chance, chance.choice((1, 2, 9)), chance.choice((1, 1, 4))))

    def test_six_of_each(self):
        chance = random.Random(3)
        self.check(drawn_rows(6, 6, chance, 9, 1))
        self.check(drawn_rows(6, 6, chance, 9, 9))

    def test_one_choice(self):
        chance = random.Random(3)
        for many, wide in ((1, 1), (1, 6), (6, 1)):
            self.check(drawn_rows(many, wide, chance, 9, 5))

    def test_all_alike(self):
        self.check([whole(3, 3, 3), whole(3, 3, 3)])
        self.check([whole(0, 0), whole(0, 0)])
        self.check([whole(-2, -2), whole(-2, -2)])


def asked_of(table):
    """All that is asked of a table with lists and dicts that are handed in, and told as lists and dicts."""
    sizes = table.sizes()
    even = [[(1, size)] * size for size in sizes]
    goal = [(1, 2)] * len(sizes)
    order = [(hand, choice) for hand, size in enumerate(sizes) for choice in range(size)]
    kept = [list(range(size)) for size in sizes]
    asked = [
        (Table.sizes, table), (Table.plays, table), (Table.earned, table, table.plays()[0]), (rests, table, 0),
        (earned_by, table, even), (answers, table, even, 1), (gains, table, even),
        (going_off, table, table.plays()[0]), (sure_points, table),
        (rounds, table), (rounds, table, order[::-1]), (advice, table, goal), (breaks, table, joint_plan(sizes, even)),
    ]
    for hand, choice in order:
        asked.append((weighed, table, hand, choice))
        asked.append((weighed, table, hand, choice, kept))
    if len(sizes) == 2:
        asked.append((point, table))
    return asked


class Owned(unittest.TestCase):
    def check(self, ask, *handed):
        before = copy.deepcopy([value for value in handed if isinstance(value, (list, dict))])
        first = ask(*handed)
        kept = copy.deepcopy(first)
        spoil(ask(*handed))
        self.assertEqual(first, kept)
        self.assertEqual(ask(*handed), kept)
        self.assertEqual([value for value in handed if isinstance(value, (list, dict))], before)

    def test_of_tables(self):
        chance = random.Random(2)
        tables = [pennies(), dilemma(), behind(), daring(), trio()]
        for table in tables + drawn_tables(chance, 8, 2, 4) + drawn_tables(chance, 6, 3, 3):
            before = cells_of(table)
            for ask in asked_of(table):
                with self.subTest(ask[0].__name__):
                    self.check(*ask)
            self.assertEqual(cells_of(table), before)

    def test_of_rows(self):
        rows = [whole(3, -1), whole(-2, 4)]
        numbers = [[2, 4, 6], [0, 3, 9]]
        for ask in ((plain, [4, 6]), (cleared, [(1, 2), (2, 3)]), (turned, numbers, 0, 1), (worth, rows),
                    (best, rows, whole(1, 1), whole(1, 2)), (best, [whole(1, -1)], whole(4), whole(1, 1))):
            with self.subTest(ask[0].__name__):
                self.check(*ask)

    def test_what_is_asked_between_changes_nothing(self):
        table = behind()
        alone = [ask[0](*ask[1:]) for ask in asked_of(behind())]
        for time in range(2):
            for ask, answer in zip(asked_of(table), alone):
                self.assertEqual(ask[0](*ask[1:]), answer)
        for ask, answer in reversed(list(zip(asked_of(table), alone))):
            self.assertEqual(ask[0](*ask[1:]), answer)


if __name__ == "__main__":
    unittest.main()
