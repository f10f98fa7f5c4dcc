"""Stage 1, fractions: [0.1], [0.2], [0.4], [0.5], [0.7] and [0.8] for tametrees.base.fractions."""

import itertools
import unittest
from fractions import Fraction

from tametrees.base.fractions import (
    compare, floor_of, is_fraction, is_integer, is_number, lowest, minus, over, plus, rest_of, times,
)
from tametrees.errors import InvalidFraction, InvalidNumber, InvalidOperation
from tests.helpers import BIG, LONG, NO_VALUE, TOO_BIG, check_error, check_same, odd_values, pair

WHOLES = (0, 1, -1, 2, -3, 7, 60, BIG, -BIG)
FRACTIONS = ((0, 1), (1, 1), (-1, 1), (1, 2), (-1, 2), (2, 3), (-7, 3), (5, 6), (BIG, 1), (1, BIG), (-BIG, 2), (BIG - 1, BIG))
NUMBERS = WHOLES + FRACTIONS
NO_NUMBERS = (
    None, True, False, "", "1", "1/2", (), (1,), (1, 2, 3), (2, 4), (0, 2), (0, -1), (1, 0), (0, 0), (1, -2), (-2, -4),
    (True, 2), (1, True), (False, 1), (None, 1), ("1", "2"), ((1, 2), 1), (1, (2, 1)), [1, 2], [], {}, {1: 2},
    TOO_BIG, -TOO_BIG, LONG, (TOO_BIG, 1), (1, TOO_BIG), (-LONG, 3), 
)


def value_of(number):
    return Fraction(number[0], number[1]) if isinstance(number, tuple) else Fraction(number)


class Kinds(unittest.TestCase):
    def test_integers(self):
        for value in WHOLES:
            self.assertIs(is_integer(value), True)
        for value in (True, False, None, "1", (1,), (1, 1), [1], {}, TOO_BIG, -TOO_BIG, LONG, -LONG):
            self.assertIs(is_integer(value), False)

    def test_fractions(self):
        for value in FRACTIONS:
            self.assertIs(is_fraction(value), True)
        for value in NO_NUMBERS + WHOLES:
            self.assertIs(is_fraction(value), False)

    def test_numbers(self):
        for value in NUMBERS:
            self.assertIs(is_number(value), True)
        for value in NO_NUMBERS:
            self.assertIs(is_number(value), False)

    def test_each_kind_of_value_is_judged(self):
        for judge in (is_integer, is_fraction, is_number):
            for value in odd_values():
                with self.subTest(judge.__name__, value=repr(value)):
                    self.assertIs(type(judge(value)), bool)
                    self.assertEqual(judge(value), judge(value))

    def test_fractions_are_just_the_pairs_in_lowest_terms(self):
        for top, bottom in itertools.product(range(-12, 13), repeat=2):
            fine = bottom > 0 and pair(Fraction(top, bottom)) == (top, bottom)
            self.assertIs(is_fraction((top, bottom)), fine)
            self.assertIs(is_number((top, bottom)), fine)


class Lowest(unittest.TestCase):
    def test_pairs_in_lowest_terms(self):
        for top in tuple(range(-12, 13)) + (BIG, -BIG, BIG - 1):
            for bottom in (1, -1, 2, -2, 3, 6, -12, 60, BIG, -BIG):
                check_same(self, lowest(top, bottom), pair(Fraction(top, bottom)))

    def test_the_top_is_checked_first(self):
        for value in NO_NUMBERS + FRACTIONS:
            check_error(self, InvalidNumber, value, lowest, value, 3)
            check_error(self, InvalidNumber, value, lowest, value, 0)
            check_error(self, InvalidNumber, value, lowest, value, None)

    def test_the_bottom_is_an_integer_other_than_0(self):
        for value in NO_NUMBERS + FRACTIONS + (0,):
            check_error(self, InvalidNumber, value, lowest, 3, value)

    def test_the_error_keeps_True_as_True(self):
        check_error(self, InvalidNumber, True, lowest, True, False)
        check_error(self, InvalidNumber, False, lowest, 1, False)
        check_error(self, InvalidNumber, 0, lowest, 0, 0)


class Reckoning(unittest.TestCase):
    def test_sums_differences_and_products(self):
        for one, other in itertools.product(NUMBERS, repeat=2):
            x, y = value_of(one), value_of(other)
            check_same(self, plus(one, other), pair(x + y))
            check_same(self, minus(one, other), pair(x - y))
            check_same(self, times(one, other), pair(x * y))

    def test_quotients(self):
        for one, other in itertools.product(NUMBERS, repeat=2):
            if value_of(other) == 0:
                check_error(self, InvalidOperation, NO_VALUE, over, one, other)
            else:
                check_same(self, over(one, other), pair(value_of(one) / value_of(other)))

    def test_comparisons(self):
        for one, other in itertools.product(NUMBERS, repeat=2):
            x, y = value_of(one), value_of(other)
            check_same(self, compare(one, other), (x > y) - (x < y))

    def test_floors_and_rests(self):
        for number in NUMBERS:
            x = value_of(number)
            floor = x.numerator // x.denominator
            check_same(self, floor_of(number), floor)
            check_same(self, rest_of(number), pair(x - floor))

    def test_the_integer_n_is_the_fraction_n_1(self):
        for n in (0, 1, -4, BIG):
            for call in (plus, minus, times, compare):
                check_same(self, call(n, (1, 2)), call((n, 1), (1, 2)))
                check_same(self, call((1, 2), n), call((1, 2), (n, 1)))
            self.assertEqual(compare(n, (n, 1)), 0)
            check_same(self, floor_of(n), floor_of((n, 1)))
            check_same(self, rest_of(n), (0, 1))

    def test_results_can_be_longer_than_what_is_passed(self):
        check_same(self, times(BIG, BIG), (BIG * BIG, 1))
        check_same(self, plus((1, BIG), (1, BIG - 1)), (2 * BIG - 1, BIG * (BIG - 1)))
        check_same(self, plus(BIG, 1), (TOO_BIG, 1))
        check_error(self, InvalidFraction, NO_VALUE, plus, plus(BIG, 1), 1)

    def test_values_that_are_no_numbers(self):
        for value in NO_NUMBERS:
            for call in (plus, minus, times, over, compare):
                with self.subTest(call.__name__, value=repr(value)):
                    check_error(self, InvalidFraction, NO_VALUE, call, value, 1)
                    check_error(self, InvalidFraction, NO_VALUE, call, 1, value)
                    check_error(self, InvalidFraction, NO_VALUE, call, value, value)
            for call in (floor_of, rest_of):
                check_error(self, InvalidFraction, NO_VALUE, call, value)

    def test_a_value_that_is_no_number_comes_ahead_of_a_division_by_0(self):
        for zero in (0, (0, 1)):
            check_error(self, InvalidOperation, NO_VALUE, over, (1, 2), zero)
            check_error(self, InvalidFraction, NO_VALUE, over, (2, 4), zero)
        check_error(self, InvalidFraction, NO_VALUE, over, True, (0, 2))


if __name__ == "__main__":
    unittest.main()
