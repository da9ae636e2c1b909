"""Points 4 and 5, and point 2 for them."""

import math
import random
import unittest

from making import drawn, meant, told
from mixplay.errors import NoNumber
from mixplay.ratios import below, divisor, greatest, minus, over, plus, ratio, summed, times


class Kinds(unittest.TestCase):
    def assert_whole(self, number):
        self.assertIs(type(number), int)

    def assert_fraction(self, fraction):
        self.assertIs(type(fraction), tuple)
        self.assertEqual(len(fraction), 2)
        self.assert_whole(fraction[0])
        self.assert_whole(fraction[1])
        self.assertGreaterEqual(fraction[1], 1)
        self.assertEqual(math.gcd(fraction[0], fraction[1]), 1)


class Divisor(Kinds):
    def test_of_nothing_and_nothing_it_is_nothing(self):
        self.assertEqual(divisor(0, 0), 0)

    def test_of_nothing_and_another_it_is_the_other_without_its_sign(self):
        for number in (1, 7, 10 ** 60):
            for signed in (number, -number):
                self.assertEqual(divisor(0, signed), number)
                self.assertEqual(divisor(signed, 0), number)

    def test_ordinary_numbers(self):
        self.assertEqual(divisor(12, 18), 6)
        self.assertEqual(divisor(18, 12), 6)
        self.assertEqual(divisor(7, 7), 7)
        self.assertEqual(divisor(9, 4), 1)
        self.assertEqual(divisor(1, 100), 1)

    def test_numbers_below_nothing(self):
        for one, other in ((-12, 18), (12, -18), (-12, -18), (-18, 12)):
            self.assertEqual(divisor(one, other), 6)

    def test_all_small_numbers_of_any_sign(self):
        for one in range(-25, 26):
            for other in range(-25, 26):
                found = divisor(one, other)
                self.assertEqual(found, math.gcd(one, other))
                self.assert_whole(found)

    def test_numbers_of_many_figures(self):
        shared = 3 ** 4000
        self.assertTrue(divisor(shared * 2 ** 900, -shared * 5 ** 700) == shared)
        chance = random.Random(4)
        for figures in (20, 200, 2000):
            one = chance.randint(1, 10 ** figures) * 30030
            other = -chance.randint(1, 10 ** figures) * 2310
            self.assertTrue(divisor(one, other) == math.gcd(one, other))


class Ratio(Kinds):
    def test_the_one_that_is_told(self):
        self.assertEqual(ratio(6, -4), (-3, 2))

    def test_signs_go_to_the_top(self):
        self.assertEqual(ratio(-6, 4), (-3, 2))
        self.assertEqual(ratio(-6, -4), (3, 2))
        self.assertEqual(ratio(6, 4), (3, 2))

    def test_nothing_is_one_fraction(self):
        for bottom in (1, -1, 5, -5, 10 ** 50):
            self.assertEqual(ratio(0, bottom), (0, 1))

    def test_whole_ones(self):
        self.assertEqual(ratio(8, 4), (2, 1))
        self.assertEqual(ratio(8, -8), (-1, 1))

    def test_lowest_terms_of_all_small_numbers(self):
        for top in range(-20, 21):
            for bottom in range(-20, 21):
                if bottom != 0:
                    made = ratio(top, bottom)
                    self.assert_fraction(made)
                    self.assertEqual(made[0] * bottom, top * made[1])

    def test_many_figures(self):
        self.assertTrue(ratio(7 ** 3000 * 6, -(7 ** 3000) * 4) == (-3, 2))

    def test_a_bottom_of_nothing_is_refused(self):
        for top in (0, 1, -7, 10 ** 5000):
            with self.assertRaises(NoNumber):
                ratio(top, 0)


class Reckoning(Kinds):
    def test_sums(self):
        self.assertEqual(plus((1, 2), (1, 3)), (5, 6))
        self.assertEqual(plus((1, 6), (1, 3)), (1, 2))
        self.assertEqual(plus((1, 2), (-1, 2)), (0, 1))
        self.assertEqual(plus((0, 1), (-5, 7)), (-5, 7))

    def test_differences(self):
        self.assertEqual(minus((1, 2), (1, 3)), (1, 6))
        self.assertEqual(minus((1, 3), (1, 2)), (-1, 6))
        self.assertEqual(minus((5, 6), (1, 3)), (1, 2))
        self.assertEqual(minus((5, 7), (5, 7)), (0, 1))

    def test_products(self):
        self.assertEqual(times((2, 3), (3, 4)), (1, 2))
        self.assertEqual(times((-2, 3), (-3, 2)), (1, 1))
        self.assertEqual(times((-2, 3), (0, 1)), (0, 1))

    def test_quotients(self):
        self.assertEqual(over((2, 3), (4, 3)), (1, 2))
        self.assertEqual(over((2, 3), (-4, 3)), (-1, 2))
        self.assertEqual(over((0, 1), (-4, 3)), (0, 1))
        self.assertEqual(over((-1, 1), (-2, 1)), (1, 2))

    def test_a_quotient_by_nothing_is_refused(self):
        for one in ((0, 1), (1, 1), (-3, 7)):
            with self.assertRaises(NoNumber):
                over(one, (0, 1))

    def test_below(self):
        self.assertIs(below((1, 3), (1, 2)), True)
        self.assertIs(below((1, 2), (1, 3)), False)
        self.assertIs(below((1, 2), (1, 2)), False)
        self.assertIs(below((-1, 2), (-1, 3)), True)
        self.assertIs(below((-1, 3), (-1, 2)), False)
        self.assertIs(below((-5, 1), (0, 1)), True)
        self.assertIs(below((0, 1), (0, 1)), False)
        self.assertIs(below((2, 3), (3, 5)), False)

    def test_below_where_only_the_last_figure_tells(self):
        great = 10 ** 400
        self.assertIs(below((great, great + 1), (great + 1, great + 2)), True)
        self.assertIs(below((great + 1, great + 2), (great, great + 1)), False)

    def test_against_a_second_reckoning(self):
        chance = random.Random(5)
        for figures in (1, 1, 1, 2, 30, 400):
            for time in range(60):
                self.check_pair(drawn(chance, figures), drawn(chance, figures))

    def check_pair(self, one, other):
        self.check(plus(one, other), meant(one) + meant(other))
        self.check(minus(one, other), meant(one) - meant(other))
        self.check(times(one, other), meant(one) * meant(other))
        if other != (0, 1):
            self.check(over(one, other), meant(one) / meant(other))
        self.assertIs(below(one, other), meant(one) < meant(other))

    def check(self, fraction, number):
        self.assert_fraction(fraction)
        self.assertEqual(fraction, told(number))


class Lists(Kinds):
    def test_summed(self):
        self.assertEqual(summed([]), (0, 1))
        self.assertEqual(summed([(1, 2), (1, 3), (1, 6)]), (1, 1))

    def test_greatest(self):
        self.assertEqual(greatest([(-1, 2)]), (-1, 2))
        self.assertEqual(greatest([(-1, 2), (-1, 3), (-1, 1)]), (-1, 3))
        self.assertEqual(greatest([(3, 5), (2, 3), (5, 8), (2, 3)]), (2, 3))

    def test_a_list_handed_in_stays(self):
        handed = [(1, 2), (1, 3)]
        summed(handed)
        greatest(handed)
        self.assertEqual(handed, [(1, 2), (1, 3)])


if __name__ == "__main__":
    unittest.main()
