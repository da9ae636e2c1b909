"""The papers of points 15 to 21, checked by a walk over the table with Python's own fractions."""

import copy
import signal
import unittest

from making import changed, fits, is_fraction, meant, meant_row, plays_of
from mixplay.advice import advice, breaks
from mixplay.beaten import weighed
from mixplay.labels import point
from mixplay.rounds import rounds


def earned(table, play, hand):
    return meant(table.earned(play)[hand])


def cells_of(table):
    return {play: table.earned(play) for play in plays_of(table.sizes())}


def all_choices(sizes):
    return [list(range(size)) for size in sizes]


def kept_plays(kept):
    most = [max(choices) + 1 for choices in kept]
    return [play for play in plays_of(most) if fits(play, kept)]


def breaches(sizes):
    """The tuples (hand, told choice, other choice) with two unlike choices, in order."""
    told = []
    for hand, size in enumerate(sizes):
        told.extend((hand, choice, other) for choice, other in plays_of([size, size]) if choice != other)
    return told


class Timed(unittest.TestCase):
    # Steps that go round would otherwise never let the tests end.
    def setUp(self):
        self.before = signal.signal(signal.SIGALRM, self.too_long)
        signal.alarm(120)

    def tearDown(self):
        signal.alarm(0)
        signal.signal(signal.SIGALRM, self.before)

    def too_long(self, number, frame):
        raise AssertionError("the steps don't end")


class Papers(Timed):
    def assert_weights(self, weights):
        self.assertTrue(all(is_fraction(weight) for weight in weights))
        self.assertTrue(all(weight[0] >= 0 for weight in weights))

    def assert_mixing(self, mixing, many):
        self.assertIs(type(mixing), list)
        self.assertEqual(len(mixing), many)
        self.assert_weights(mixing)
        self.assertEqual(sum(meant_row(mixing)), 1)

    def assert_refused(self, error, asked, *handed):
        """Gives the refusal back, to ask what it keeps."""
        before = copy.deepcopy([value for value in handed if isinstance(value, (list, dict))])
        with self.assertRaises(error) as caught:
            asked(*handed)
        self.assertIs(type(caught.exception), error)
        self.assertEqual([value for value in handed if isinstance(value, (list, dict))], before)
        return caught.exception

    # Point 17.

    def assert_beaten(self, table, hand, choice, kept, mixing):
        self.assert_mixing(mixing, table.sizes()[hand])
        self.assertTrue(all(weight == (0, 1) for other, weight in enumerate(mixing) if other not in kept[hand]))
        for play in kept_plays(kept):
            if play[hand] == choice:
                by_mixing = sum(meant(mixing[other]) * earned(table, changed(play, hand, other), hand)
                                for other in kept[hand])
                self.assertGreater(by_mixing, earned(table, play, hand))

    def assert_belief(self, table, hand, choice, kept, weights):
        self.assertIs(type(weights), dict)
        self.assertEqual(sorted(weights), kept_plays(kept[:hand] + kept[hand + 1:]))
        self.assert_weights(weights.values())
        self.assertEqual(sum(meant_row(weights.values())), 1)
        by_choice = {other: 0 for other in kept[hand]}
        for play in kept_plays(kept):
            by_choice[play[hand]] += meant(weights[play[:hand] + play[hand + 1:]]) * earned(table, play, hand)
        self.assertEqual(max(by_choice.values()), by_choice[choice])

    def weigh(self, table, hand, choice, kept=None):
        """Asks, checks the paper, and gives the text back."""
        handed = copy.deepcopy(kept)
        told = weighed(table, hand, choice) if kept is None else weighed(table, hand, choice, kept)
        self.assertEqual(kept, handed)
        self.assertIs(type(told), tuple)
        text, paper = told
        among = all_choices(table.sizes()) if kept is None else kept
        {"beaten": self.assert_beaten, "belief": self.assert_belief}[text](table, hand, choice, among, paper)
        return text

    # Point 18.

    def go_through(self, table, order):
        """What is taken out by the words of point 18, one after the other."""
        kept, log, before = all_choices(table.sizes()), [], None
        while before != len(log):
            before = len(log)
            for hand, choice in order:
                if choice in kept[hand] and weighed(table, hand, choice, kept)[0] == "beaten":
                    kept[hand].remove(choice)
                    log.append((hand, choice))
        return log

    def take_out(self, table, order=None):
        """Asks, checks all three papers, and gives what is kept and the pairs of the log back."""
        handed = copy.deepcopy(order)
        told = rounds(table) if order is None else rounds(table, order)
        self.assertEqual(order, handed)
        self.assertEqual([type(part) for part in (told, *told)], [tuple, list, list, dict])
        sizes = table.sizes()
        now = all_choices(sizes)
        for entry in told[1]:
            self.assertIs(type(entry), tuple)
            hand, choice, mixing = entry
            self.assert_beaten(table, hand, choice, now, mixing)
            now[hand].remove(choice)
        self.assertEqual(told[0], now)
        pairs = [(hand, choice) for hand, choices in enumerate(now) for choice in choices]
        self.assertEqual(sorted(told[2]), pairs)
        for hand, choice in pairs:
            self.assert_belief(table, hand, choice, now, told[2][(hand, choice)])
        log = [entry[:2] for entry in told[1]]
        if order is None:
            order = [(hand, choice) for hand, size in enumerate(sizes) for choice in range(size)]
        self.assertEqual(log, self.go_through(table, order))
        return told[0], log

    # Point 19.

    def assert_point(self, table, mixings):
        sizes = table.sizes()
        self.assertIs(type(mixings), list)
        self.assertEqual(len(mixings), 2)
        for mixing, size in zip(mixings, sizes):
            self.assert_mixing(mixing, size)
        first, second = [meant_row(mixing) for mixing in mixings]
        by_first = [sum(second[other] * earned(table, (choice, other), 0) for other in range(sizes[1]))
                    for choice in range(sizes[0])]
        by_second = [sum(first[other] * earned(table, (other, choice), 1) for other in range(sizes[0]))
                     for choice in range(sizes[1])]
        for mixing, answers in ((first, by_first), (second, by_second)):
            self.assertEqual(sum(chance * answer for chance, answer in zip(mixing, answers)), max(answers))

    def find_point(self, table):
        mixings = point(table)
        self.assert_point(table, mixings)
        return mixings

    # Points 20 and 21.

    def breaking(self, table, plan):
        for hand, choice, other in breaches(table.sizes()):
            more = 0
            for play, weight in plan.items():
                if play[hand] == choice and weight[0] != 0:
                    there = earned(table, changed(play, hand, other), hand)
                    more += meant(weight) * (there - earned(table, play, hand))
            if more > 0:
                return (hand, choice, other)
        return None

    def broken_by(self, table, plan):
        """Asks who breaks a plan, checks it by a second reckoning, and gives the answer back."""
        handed = copy.deepcopy(plan)
        told = breaks(table, plan)
        self.assertEqual(plan, handed)
        self.assertEqual(told, self.breaking(table, plan))
        if told is not None:
            self.assertEqual([type(part) for part in (told, *told)], [tuple, int, int, int])
        return told

    def assert_none_better(self, table, goals, weights, number):
        sizes = table.sizes()
        self.assertEqual(sorted(weights), breaches(sizes))
        self.assert_weights(weights.values())
        for play, goal in goals.items():
            total = goal
            for hand, size in enumerate(sizes):
                for other in range(size):
                    if other != play[hand]:
                        less = earned(table, play, hand) - earned(table, changed(play, hand, other), hand)
                        total += meant(weights[(hand, play[hand], other)]) * less
            self.assertLessEqual(total, number)

    def advise(self, table, goal):
        """Asks, checks the paper of point 21, and gives the plan and the worth back."""
        handed = copy.deepcopy(goal)
        told = advice(table, goal)
        self.assertEqual(goal, handed)
        self.assertEqual([type(part) for part in (told, *told)], [tuple, dict, dict, tuple])
        plan, weights, number = told
        plays = plays_of(table.sizes())
        self.assertEqual(sorted(plan), plays)
        self.assert_weights(plan.values())
        self.assertEqual(sum(meant_row(plan.values())), 1)
        self.assertIsNone(self.broken_by(table, plan))
        self.assertTrue(is_fraction(number))
        goals = {play: sum(meant(aim) * earned(table, play, hand) for hand, aim in enumerate(goal)) for play in plays}
        self.assertEqual(sum(meant(plan[play]) * goals[play] for play in plays), meant(number))
        self.assert_none_better(table, goals, weights, meant(number))
        return plan, number
