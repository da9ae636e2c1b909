"""Points 6, 7 and 8, and point 2 for them."""

import random
import unittest

from making import drawn_cells, pennies, plays_of, trio, whole
from mixplay.errors import NoChoice, NoTable
from mixplay.tables import Table, joined, rest_of, rests


class Order(unittest.TestCase):
    def test_plays_of_two_hands(self):
        table = Table([2, 3], drawn_cells([2, 3], random.Random(6)))
        self.assertEqual(table.plays(), [(0, 0), (0, 1), (0, 2), (1, 0), (1, 1), (1, 2)])

    def test_plays_of_three_hands(self):
        table = Table([2, 1, 2], drawn_cells([2, 1, 2], random.Random(6)))
        self.assertEqual(table.plays(), [(0, 0, 0), (0, 0, 1), (1, 0, 0), (1, 0, 1)])

    def test_plays_in_the_order_of_tuples_whatever_the_order_of_keys(self):
        for sizes in ([1, 1], [1, 6], [6, 6], [1, 1, 1], [3, 4, 2], [6, 6, 6]):
            cells = drawn_cells(sizes, random.Random(6))
            table = Table(sizes, dict(reversed(list(cells.items()))))
            with self.subTest(sizes=sizes):
                self.assertEqual(table.plays(), sorted(cells))

    def test_rests_of_two_hands(self):
        table = Table([2, 3], drawn_cells([2, 3], random.Random(6)))
        self.assertEqual(rests(table, 0), [(0,), (1,), (2,)])
        self.assertEqual(rests(table, 1), [(0,), (1,)])

    def test_rests_of_three_hands(self):
        table = Table([2, 1, 3], drawn_cells([2, 1, 3], random.Random(6)))
        self.assertEqual(rests(table, 0), [(0, 0), (0, 1), (0, 2)])
        self.assertEqual(rests(table, 1), [(0, 0), (0, 1), (0, 2), (1, 0), (1, 1), (1, 2)])
        self.assertEqual(rests(table, 2), [(0, 0), (1, 0)])

    def test_rest_of_a_play(self):
        self.assertEqual([rest_of((4, 2), hand) for hand in (0, 1)], [(2,), (4,)])
        self.assertEqual([rest_of((4, 2, 5), hand) for hand in (0, 1, 2)], [(2, 5), (4, 5), (4, 2)])

    def test_joined(self):
        self.assertEqual([joined((2,), hand, 4) for hand in (0, 1)], [(4, 2), (2, 4)])
        self.assertEqual([joined((2, 5), hand, 4) for hand in (0, 1, 2)], [(4, 2, 5), (2, 4, 5), (2, 5, 4)])

    def test_a_rest_with_the_hands_choice_is_the_play(self):
        for sizes in ([2, 3], [6, 1], [2, 3, 4], [1, 6, 2]):
            table = Table(sizes, drawn_cells(sizes, random.Random(6)))
            for hand in range(len(sizes)):
                for play in table.plays():
                    rest = rest_of(play, hand)
                    self.assertIn(rest, rests(table, hand))
                    self.assertEqual(joined(rest, hand, play[hand]), play)

    def test_rests_are_all_the_rests_once(self):
        for sizes in ([2, 3], [3, 1, 4]):
            table = Table(sizes, drawn_cells(sizes, random.Random(6)))
            for hand in range(len(sizes)):
                found = {rest_of(play, hand) for play in table.plays()}
                self.assertEqual(rests(table, hand), sorted(found))


class Refused(unittest.TestCase):
    def setUp(self):
        self.cells = drawn_cells([2, 3], random.Random(7))
        self.threes = drawn_cells([2, 1, 3], random.Random(7))

    def refuse(self, sizes, cells):
        with self.assertRaises(NoTable):
            Table(sizes, cells)

    def test_the_whole_ones_are_taken(self):
        Table([2, 3], self.cells)
        Table([2, 1, 3], self.threes)

    def test_the_count_of_sizes(self):
        for sizes in ([], [2], [2, 1, 2, 1], [1, 1, 1, 1, 1]):
            with self.subTest(sizes=sizes):
                self.refuse(sizes, drawn_cells(sizes, random.Random(7)))

    def test_sizes_from_one_to_six_are_taken(self):
        for size in range(1, 7):
            for sizes in ([size, 2], [2, size], [2, 1, size]):
                made = Table(sizes, drawn_cells(sizes, random.Random(7)))
                self.assertEqual(made.sizes(), sizes)

    def test_other_sizes(self):
        for size in (0, 7, 8):
            for sizes in ([size, 2], [2, size], [size, 2, 2], [2, size, 2], [2, 2, size]):
                with self.subTest(sizes=sizes):
                    self.refuse(sizes, drawn_cells(sizes, random.Random(7)))

    def test_sizes_below_nothing(self):
        for sizes in ([-1, 2], [2, -1], [-2, -3], [2, 2, -6]):
            with self.subTest(sizes=sizes):
                self.refuse(sizes, {})
                self.refuse(sizes, self.cells)

    def test_very_great_sizes(self):
        for size in (10 ** 30, 10 ** 6000):
            self.refuse([size, 2], self.cells)
            self.refuse([2, size], self.cells)
            self.refuse([2, 1, size], self.threes)
            self.refuse([size, size, size], {})

    def test_a_play_that_is_lacking(self):
        for play in list(self.cells):
            self.refuse([2, 3], {key: self.cells[key] for key in self.cells if key != play})
        for play in list(self.threes):
            self.refuse([2, 1, 3], {key: self.threes[key] for key in self.threes if key != play})
        self.refuse([2, 3], {})

    def test_a_key_that_is_no_play(self):
        for key in ((2, 0), (0, 3), (-1, 0), (0, -1), (0,), (), (0, 0, 0), (10 ** 30, 0)):
            with self.subTest(key=key):
                self.cells[key] = whole(1, 2)
                self.refuse([2, 3], self.cells)
                del self.cells[key]
        self.threes[(0, 1, 0)] = whole(1, 2, 3)
        self.refuse([2, 1, 3], self.threes)

    def test_a_key_in_the_place_of_a_play(self):
        for play in list(self.cells):
            for key in ((2, 0), (0, 3), (-1, 0), (0, 0, 0)):
                cells = {other: self.cells[other] for other in self.cells if other != play}
                cells[key] = self.cells[play]
                self.refuse([2, 3], cells)

    def test_a_list_with_an_entry_less_or_more(self):
        for play in plays_of([2, 3]):
            for entries in (whole(), whole(1), whole(1, 2, 3)):
                self.refuse([2, 3], {**self.cells, play: entries})
        for play in plays_of([2, 1, 3]):
            for entries in (whole(), whole(1, 2), whole(1, 2, 3, 4)):
                self.refuse([2, 1, 3], {**self.threes, play: entries})


class Told(unittest.TestCase):
    def test_sizes(self):
        self.assertEqual(pennies().sizes(), [2, 2])
        self.assertEqual(trio().sizes(), [2, 1, 3])

    def test_what_each_hand_earns(self):
        self.assertEqual(pennies().earned((0, 0)), [(1, 1), (-1, 1)])
        self.assertEqual(pennies().earned((0, 1)), [(-1, 1), (1, 1)])
        self.assertEqual(trio().earned((1, 0, 2)), [(102, 1), (19, 1), (2, 1)])

    def test_what_each_hand_earns_in_all_plays(self):
        for sizes, figures in (([2, 3], 1), ([6, 6], 2), ([2, 3, 4], 1), ([1, 1], 300)):
            cells = drawn_cells(sizes, random.Random(8), figures)
            table = Table(sizes, cells)
            for play in plays_of(sizes):
                self.assertEqual(table.earned(play), cells[play])

    def refused(self, table, play, hand, choice):
        with self.assertRaises(NoChoice) as caught:
            table.earned(play)
        self.assertEqual((caught.exception.hand, caught.exception.choice), (hand, choice))

    def test_choices_below_nothing(self):
        self.refused(pennies(), (-1, 0), 0, -1)
        self.refused(pennies(), (0, -1), 1, -1)
        self.refused(trio(), (0, 0, -3), 2, -3)

    def test_choices_too_great(self):
        self.refused(pennies(), (2, 0), 0, 2)
        self.refused(pennies(), (1, 2), 1, 2)
        self.refused(trio(), (1, 1, 2), 1, 1)
        self.refused(trio(), (1, 0, 3), 2, 3)
        self.refused(trio(), (1, 0, 10 ** 6000), 2, 10 ** 6000)

    def test_the_first_such_hand_is_kept(self):
        self.refused(pennies(), (5, -7), 0, 5)
        self.refused(trio(), (0, 4, -1), 1, 4)
        self.refused(trio(), (-1, 4, 9), 0, -1)
        self.refused(trio(), (2, 0, 9), 0, 2)


class Owned(unittest.TestCase):
    def setUp(self):
        self.sizes = [2, 3]
        self.cells = drawn_cells([2, 3], random.Random(2))
        self.table = Table(self.sizes, self.cells)
        self.same = drawn_cells([2, 3], random.Random(2))

    def assert_same(self):
        self.assertEqual(self.table.sizes(), [2, 3])
        self.assertEqual(self.table.plays(), plays_of([2, 3]))
        for play in plays_of([2, 3]):
            self.assertEqual(self.table.earned(play), self.same[play])
        self.assertEqual(rests(self.table, 0), [(0,), (1,), (2,)])
        self.assertEqual(rests(self.table, 1), [(0,), (1,)])

    def test_what_was_handed_in_stays(self):
        self.assert_same()
        self.assertEqual(self.sizes, [2, 3])
        self.assertEqual(self.cells, self.same)

    def test_the_sizes_are_changed_later(self):
        self.sizes[0] = 1
        self.sizes.append(2)
        self.assert_same()

    def test_the_cells_are_changed_later(self):
        self.cells[(0, 0)] = whole(77, 77)
        del self.cells[(1, 1)]
        self.cells[(9, 9)] = whole(0, 0)
        self.assert_same()

    def test_a_plays_list_is_changed_later(self):
        self.cells[(0, 0)][1] = (77, 1)
        self.cells[(1, 2)].append((77, 1))
        self.cells[(1, 1)].clear()
        self.assert_same()

    def test_one_list_for_all_plays(self):
        shared = whole(3, 4)
        table = Table([2, 2], {play: shared for play in plays_of([2, 2])})
        table.earned((0, 0))[0] = (9, 1)
        shared[0] = (8, 1)
        for play in plays_of([2, 2]):
            self.assertEqual(table.earned(play), whole(3, 4))

    def test_lists_that_were_told_are_the_askers_own(self):
        self.table.sizes()[0] = 1
        self.table.sizes().append(3)
        self.table.plays().clear()
        self.table.earned((0, 1))[0] = (77, 1)
        self.table.earned((0, 1)).append((77, 1))
        rests(self.table, 0).clear()
        self.assert_same()

    def test_a_told_list_stays_whatever_is_asked_later(self):
        sizes, plays, earned = self.table.sizes(), self.table.plays(), self.table.earned((1, 0))
        self.table.sizes()[0] = 5
        self.table.plays().reverse()
        self.table.earned((1, 0)).reverse()
        self.assertEqual(sizes, [2, 3])
        self.assertEqual(plays, plays_of([2, 3]))
        self.assertEqual(earned, self.same[(1, 0)])

    def test_kinds(self):
        self.assertIs(type(self.table.sizes()), list)
        self.assertIs(type(self.table.plays()), list)
        self.assertIs(type(self.table.plays()[0]), tuple)
        self.assertIs(type(self.table.earned((0, 0))), list)
        self.assertIs(type(rests(self.table, 0)), list)
        self.assertIs(type(rests(self.table, 0)[0]), tuple)
        self.assertIs(type(rest_of((0, 0), 1)), tuple)
        self.assertIs(type(joined((0,), 1, 0)), tuple)

    def test_two_tables_are_apart(self):
        other = Table([1, 1], {(0, 0): whole(5, 6)})
        self.assert_same()
        self.assertEqual(other.earned((0, 0)), whole(5, 6))


if __name__ == "__main__":
    unittest.main()
