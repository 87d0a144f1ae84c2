"""Promise 3: reckoning with fractions."""

import random
import unittest
from fractions import Fraction
from math import floor

from royaltree.fractions import by_part, fraction_of, is_less, product_of, sum_of, taken_from, whole_of

LONG = 10 ** 30 + 57
LONGER = 3 ** 200


def pair(one):
    return (one.numerator, one.denominator)


def some_fractions():
    """Fractions on both sides of 0, whole ones, 0 itself, small and long ones."""
    small = {Fraction(top, below) for top in range(-7, 8) for below in range(1, 7)}
    draw = random.Random(3)
    long = [Fraction(draw.randint(-10 ** 40, 10 ** 40), draw.randint(1, 10 ** 40)) for turn in range(8)]
    return sorted(small) + long


class FractionCase(unittest.TestCase):
    def told(self, answer, wanted):
        """The answer is the wanted fraction, as a tuple of two whole numbers."""
        self.assertIs(type(answer), tuple)
        self.assertEqual([type(number) for number in answer], [int, int])
        self.assertEqual(answer, wanted)


class TestFractionOf(FractionCase):
    def test_ordinary_ones(self):
        self.told(fraction_of(1, 2), (1, 2))
        self.told(fraction_of(6, 4), (3, 2))
        self.told(fraction_of(12, 4), (3, 1))
        self.told(fraction_of(-6, 4), (-3, 2))

    def test_below_less_than_nought(self):
        self.told(fraction_of(3, -6), (-1, 2))
        self.told(fraction_of(-3, -6), (1, 2))
        self.told(fraction_of(5, -1), (-5, 1))

    def test_a_top_of_nought(self):
        for below in (1, -1, 5, -5, LONG, -LONG):
            self.told(fraction_of(0, below), (0, 1))

    def test_both_numbers_so_many_times_as_great(self):
        for times in (2, -3, 60, LONG, -LONGER):
            self.told(fraction_of(7 * times, 12 * times), (7, 12))
            self.told(fraction_of(-7 * times, 12 * times), (-7, 12))

    def test_long_numbers(self):
        self.told(fraction_of(LONGER, LONGER * 10 ** 31), (1, 10 ** 31))
        self.told(fraction_of(10 ** 60, -(10 ** 30)), (-(10 ** 30), 1))
        self.told(fraction_of(10 ** 35 + 1, 10 ** 35), (10 ** 35 + 1, 10 ** 35))

    def test_against_pythons_own(self):
        for top in range(-30, 31):
            for below in list(range(-30, 0)) + list(range(1, 31)):
                self.told(fraction_of(top, below), pair(Fraction(top, below)))


class TestSumOf(FractionCase):
    def test_of_none(self):
        self.told(sum_of([]), (0, 1))

    def test_of_one(self):
        for one in ((0, 1), (3, 7), (-3, 7), (5, 1), (LONG, LONGER)):
            self.told(sum_of([one]), one)

    def test_of_many(self):
        self.told(sum_of([(1, 2), (1, 3), (1, 6)]), (1, 1))
        self.told(sum_of([(1, 2), (1, 2)]), (1, 1))
        self.told(sum_of([(1, 3), (-1, 3)]), (0, 1))
        self.told(sum_of([(1, 3), (-2, 3)]), (-1, 3))
        many = some_fractions()
        self.told(sum_of([pair(one) for one in many]), pair(sum(many)))

    def test_in_any_order(self):
        parts = [pair(one) for one in some_fractions()]
        wanted = sum_of(parts)
        draw = random.Random(5)
        for turn in range(5):
            draw.shuffle(parts)
            self.told(sum_of(parts), wanted)
        self.told(sum_of(parts[::-1]), wanted)

    def test_the_list_handed_in_stays(self):
        parts = [(1, 2), (-3, 4), (0, 1), (1, 2)]
        sum_of(parts)
        self.assertEqual(parts, [(1, 2), (-3, 4), (0, 1), (1, 2)])
        self.told(sum_of(parts), (1, 4))


class TestTwoFractions(FractionCase):
    def test_taken_from_is_other_less_one(self):
        self.told(taken_from((1, 3), (1, 2)), (1, 6))
        self.told(taken_from((1, 2), (1, 3)), (-1, 6))
        self.told(taken_from((0, 1), (2, 5)), (2, 5))
        self.told(taken_from((2, 5), (0, 1)), (-2, 5))
        self.told(taken_from((-2, 5), (3, 5)), (1, 1))
        self.told(taken_from((7, 9), (7, 9)), (0, 1))

    def test_product_of(self):
        self.told(product_of((2, 3), (3, 4)), (1, 2))
        self.told(product_of((-2, 3), (3, 2)), (-1, 1))
        self.told(product_of((-2, 3), (-3, 4)), (1, 2))
        self.told(product_of((0, 1), (-3, 4)), (0, 1))
        self.told(product_of((LONG, LONGER), (LONGER, LONG)), (1, 1))

    def test_by_part_is_one_by_other(self):
        self.told(by_part((1, 2), (3, 4)), (2, 3))
        self.told(by_part((3, 4), (1, 2)), (3, 2))
        self.told(by_part((1, 2), (-3, 4)), (-2, 3))
        self.told(by_part((-1, 2), (-3, 4)), (2, 3))
        self.told(by_part((0, 1), (-3, 4)), (0, 1))
        self.told(by_part((5, 1), (5, 1)), (1, 1))
        self.told(by_part((LONG, LONGER), (LONG, 1)), (1, LONGER))

    def test_is_less(self):
        for one, other in (((1, 3), (1, 2)), ((-1, 2), (-1, 3)), ((-1, 2), (0, 1)), ((0, 1), (1, 60)),
                           ((2, 1), (3, 1)), ((-3, 1), (2, 1)), ((LONG, LONGER), (LONG + 1, LONGER))):
            self.assertIs(is_less(one, other), True)
            self.assertIs(is_less(other, one), False)
        for one in ((0, 1), (1, 2), (-1, 2), (4, 1), (LONG, LONGER)):
            self.assertIs(is_less(one, one), False)

    def test_against_pythons_own(self):
        for one in some_fractions():
            for other in some_fractions():
                self.told(taken_from(pair(one), pair(other)), pair(other - one))
                self.told(product_of(pair(one), pair(other)), pair(one * other))
                self.assertIs(is_less(pair(one), pair(other)), one < other)
                if other != 0:
                    self.told(by_part(pair(one), pair(other)), pair(one / other))


class TestWholeOf(FractionCase):
    def test_at_and_above_nought(self):
        for one, wanted in (((0, 1), 0), ((1, 60), 0), ((59, 60), 0), ((1, 1), 1), ((7, 2), 3), ((9, 1), 9)):
            self.assertEqual(whole_of(one), wanted)

    def test_below_nought(self):
        for one, wanted in (((-1, 60), -1), ((-59, 60), -1), ((-1, 1), -1), ((-7, 2), -4), ((-9, 1), -9)):
            self.assertEqual(whole_of(one), wanted)

    def test_against_pythons_own(self):
        for one in some_fractions():
            self.assertIs(type(whole_of(pair(one))), int)
            self.assertEqual(whole_of(pair(one)), floor(one))


if __name__ == "__main__":
    unittest.main()
