"""Stage 7: [7.1] to [7.8], with [0.1] to [0.8], for tametrees.trees.chains."""

import itertools
import math
import random
import unittest
from fractions import Fraction

from tametrees.errors import InvalidNumber, InvalidOperation, TooMany
from tametrees.rows.depth import share_of
from tametrees.trees.chains import (
    MAX_CHAIN, MAX_TOP, beside_chain, chain_down, chain_fraction, chain_numbers, chain_share, joined_chain, saw_sum, turned_chain,
)
from tametrees.trees.definite import determinant_of
from tametrees.trees.duals import dual_row, left_determinant
from tametrees.trees.groups import class_of, classes_of
from tametrees.trees.trees import Tree, are_alike
from tests.helpers import BIG, LONG, NO_VALUE, TOO_BIG, check_error, check_same, made_line, odd_values, pair, product_by_ties

NO_CHAINS = (
    (), (1,), (2, 1), (0,), (2, 0), (-2,), (2, -2), [2], [2, 3], (2, True), (True,), (2, None), (2, "2"), (2, (2, 1)), ((2, 3),), "2", 2, None, True,
    {}, {2: 2}, (2,) * 61, (2, TOO_BIG), (LONG,), (-LONG, 2),
)


def pairs_to(most):
    return [(n, q) for n in range(2, most + 1) for q in range(1, n) if math.gcd(n, q) == 1]


def value_of(numbers):
    """The fraction of [7.1]."""
    value = Fraction(numbers[-1])
    for number in reversed(numbers[:-1]):
        value = number - 1 / value
    return value


def chain_by_ceilings(value):
    numbers = []
    while True:
        number = math.ceil(value)
        numbers.append(number)
        if number == value:
            return tuple(numbers)
        value = 1 / (number - value)


def tooth(x):
    return Fraction(0) if x.denominator == 1 else x - math.floor(x) - Fraction(1, 2)


def saw_by_words(q, n):
    return sum((tooth(Fraction(i, n)) * tooth(Fraction(q * i, n)) for i in range(1, n)), Fraction(0))


def all_ends(numbers):
    """All that can be left if 1s are taken away in any sequence."""
    spots = [at for at, number in enumerate(numbers) if number == 1] if len(numbers) > 1 else []
    if not spots:
        return {numbers}
    ends = set()
    for at in spots:
        left = list(numbers)
        for beside in (at - 1, at + 1):
            if 0 <= beside < len(left):
                left[beside] -= 1
        del left[at]
        ends |= all_ends(tuple(left))
    return ends


class Fractions(unittest.TestCase):
    def test_the_bounds(self):
        check_same(self, (MAX_CHAIN, MAX_TOP), (60, 10000))

    def test_chains_and_fractions(self):
        for n, q in pairs_to(61):
            numbers = chain_numbers(n, q)
            check_same(self, numbers, chain_by_ceilings(Fraction(n, q)))
            self.assertTrue(min(numbers) >= 2 and value_of(numbers) == Fraction(n, q))
            check_same(self, chain_fraction(numbers), (n, q))

    def test_each_chain_has_its_fraction(self):
        for length in range(1, 6):
            for numbers in itertools.product((2, 3, 4), repeat=length):
                n, q = chain_fraction(numbers)
                check_same(self, (n, q), pair(value_of(numbers)))
                self.assertTrue(n > q >= 1)
                check_same(self, chain_numbers(n, q), numbers)

    def test_great_tops(self):
        source = random.Random(71)
        for n in (9999, 10000, 9973):
            for q in [1, 3, 7, n - 1] + [source.randrange(1, n) for _ in range(40)]:
                if math.gcd(n, q) == 1:
                    numbers = chain_by_ceilings(Fraction(n, q))
                    if len(numbers) <= 60:
                        check_same(self, chain_numbers(n, q), numbers)
                    else:
                        check_error(self, TooMany, 60, chain_numbers, n, q)

    def test_chains_of_60_and_61_integers(self):
        check_same(self, chain_numbers(61, 60), (2,) * 60)
        check_error(self, TooMany, 60, chain_numbers, 62, 61)
        check_same(self, chain_fraction((2,) * 60), (61, 60))
        n, q = chain_fraction((9,) + (2,) * 59)
        check_same(self, chain_numbers(n, q), (9,) + (2,) * 59)
        n, q = pair(value_of((9,) + (2,) * 60))
        check_error(self, TooMany, 60, chain_numbers, n, q)

    def test_fractions_of_any_size(self):
        for numbers in ((BIG,) * 60, (BIG, 2, BIG), (2,) * 60, (BIG,), (60,) * 12):
            check_same(self, chain_fraction(numbers), pair(value_of(numbers)))

    def test_7_1_lines(self):
        for n, q in pairs_to(40):
            numbers = chain_numbers(n, q)
            if len(numbers) <= 12:
                line = Tree.line(numbers)
                self.assertEqual((determinant_of(line), left_determinant(line, (0,))), (n, q))

    def test_wrong_values(self):
        for call in (chain_numbers, chain_share):
            for value in (1, 0, -2, 10001, None, True, False, "2", (2, 1), [2], BIG, LONG, -LONG):
                check_error(self, InvalidNumber, value, call, value, 1)
                check_error(self, InvalidNumber, value, call, value, None)
            for value in (0, -1, 6, 7, None, True, False, "1", (1, 1), 10000, LONG):
                check_error(self, InvalidNumber, value, call, 6, value)
            for n, q in ((6, 4), (6, 2), (6, 3), (10000, 5000), (4, 2)):
                check_error(self, InvalidOperation, NO_VALUE, call, n, q)
            check_error(self, InvalidNumber, 2, call, 2, 2)
        check_error(self, InvalidOperation, NO_VALUE, chain_numbers, 128, 126)
        check_same(self, (chain_numbers(2, 1), chain_numbers(10000, 1), chain_share(2, 1)), ((2,), (10000,), (1, 1)))

    def test_no_chains(self):
        for value in NO_CHAINS:
            for call in (chain_fraction, turned_chain, beside_chain, joined_chain):
                with self.subTest((call.__name__, repr(value))):
                    check_error(self, InvalidOperation, NO_VALUE, call, value)
        for value in odd_values():
            for call in (chain_fraction, turned_chain, beside_chain, joined_chain, chain_down):
                right = value in ((0,), (1,), (0, 1), (1, 2), (2, 4), (1, 0), (1, TOO_BIG - 1)) and type(value) is tuple
                if not (right and (call is chain_down or value == (2, 4))):
                    check_error(self, InvalidOperation, NO_VALUE, call, value)


class Turned(unittest.TestCase):
    def test_7_2(self):
        for n, q in pairs_to(61):
            numbers = chain_numbers(n, q)
            turned = turned_chain(numbers)
            check_same(self, turned, tuple(reversed(numbers)))
            top, bottom = chain_fraction(turned)
            self.assertEqual((top, q * bottom % n), (n, 1))

    def test_lines_are_alike_just_if_chains_are_equal_or_turned(self):
        chains = [chain for length in (1, 2, 3, 4) for chain in itertools.product((2, 3), repeat=length)]
        for one, other in itertools.product(chains, repeat=2):
            self.assertIs(are_alike(Tree.line(one), Tree.line(other)), other in (one, turned_chain(one)))

    def test_edges(self):
        check_same(self, (turned_chain((BIG, 2)), turned_chain((2,)), turned_chain((2,) * 59 + (3,))), ((2, BIG), (2,), (3,) + (2,) * 59))


class Beside(unittest.TestCase):
    def test_7_3(self):
        for n, q in pairs_to(61):
            numbers = chain_numbers(n, q)
            beside = beside_chain(numbers)
            check_same(self, beside, chain_by_ceilings(Fraction(n, n - q)))
            check_same(self, beside_chain(beside), numbers)
            total = len(numbers) + len(beside) - 1
            self.assertEqual((sum(numbers) - len(numbers), sum(beside) - len(beside)), (total, total))

    def test_chains_beside_of_60_and_61_integers(self):
        check_same(self, beside_chain((61,)), (2,) * 60)
        check_same(self, beside_chain((2,) * 60), (61,))
        check_same(self, joined_chain((61,)), (61, 1) + (2,) * 60)
        check_same(self, beside_chain((3, 60)), (2, 3) + (2,) * 58)
        for numbers in ((62,), (BIG,), (3, 61), (2, BIG, 2), (BIG,) * 60, (2,) * 59 + (62,), (4,) * 60):
            check_error(self, TooMany, 60, beside_chain, numbers)
            check_error(self, TooMany, 60, joined_chain, numbers)
        check_same(self, len(beside_chain((3,) * 59)), 60)
        check_error(self, TooMany, 60, beside_chain, (3,) * 60)

    def test_joined_chains(self):
        for n, q in pairs_to(61):
            numbers = chain_numbers(n, q)
            check_same(self, joined_chain(numbers), numbers + (1,) + turned_chain(beside_chain(numbers)))

    def test_a_joined_chain_of_121_integers(self):
        numbers = (3,) * 58 + (2, 3)
        self.assertEqual((len(numbers), len(beside_chain(numbers))), (60, 60))
        found = joined_chain(numbers)
        self.assertEqual(len(found), 121)
        check_same(self, chain_down(found), (0,))
        check_error(self, InvalidOperation, NO_VALUE, chain_down, found + (2,))


class Down(unittest.TestCase):
    def test_7_4_joined_chains_come_down_to_0(self):
        for n, q in pairs_to(30):
            numbers = chain_numbers(n, q)
            found = joined_chain(numbers)
            check_same(self, chain_down(found), (0,))
            if n <= 13:
                self.assertEqual(all_ends(found), {(0,)})

    def test_other_chains(self):
        for length in range(1, 6):
            for numbers in itertools.product((0, 1, 2, 3), repeat=length):
                left = list(numbers)
                while len(left) >= 2 and 1 in left:
                    at = left.index(1)
                    if at > 0:
                        left[at - 1] -= 1
                    if at + 1 < len(left):
                        left[at + 1] -= 1
                    del left[at]
                check_same(self, chain_down(numbers), tuple(left))

    def test_edges(self):
        check_same(self, [chain_down(numbers) for numbers in ((0,), (1,), (0, 0), (0, 1, 0), (1, 1), (1, 1, 1), (1, BIG), (0,) * 121, (2,) * 121)],
                   [(0,), (1,), (0, 0), (-1, -1), (0,), (-1,), (BIG - 1,), (0,) * 121, (2,) * 121])
        check_same(self, chain_down((1,) + (2,) * 120), (1,))
        for value in ((), (0,) * 122, (-1,), (2, -1), (2, True), [1], (1, TOO_BIG), (LONG,), (1, None), "1", None, 1, ((1,),), {1: 1}):
            check_error(self, InvalidOperation, NO_VALUE, chain_down, value)


class Classes(unittest.TestCase):
    def test_7_5(self):
        for n, q in pairs_to(20):
            numbers = chain_numbers(n, q)
            line = made_line(numbers)
            row, last = dual_row(line, 0), dual_row(line, len(numbers) - 1)
            multiples = {class_of(line, tuple(pair(Fraction(*entry) * times) for entry in row)) for times in range(n)}
            self.assertEqual(tuple(sorted(multiples)), classes_of(line))
            self.assertEqual(product_by_ties(line, [Fraction(*x) for x in row], [Fraction(*x) for x in row]), Fraction(-q, n))
            self.assertEqual(class_of(line, row), class_of(line, tuple(pair(Fraction(*entry) * q) for entry in last)))


class SawSums(unittest.TestCase):
    def test_saw_sums(self):
        for n in range(1, 40):
            for q in range(-2 * n, 2 * n + 1):
                if math.gcd(q, n) == 1:
                    check_same(self, saw_sum(q, n), pair(saw_by_words(q, n)))
                else:
                    check_error(self, InvalidOperation, NO_VALUE, saw_sum, q, n)

    def test_7_6_by_chains(self):
        for n, q in pairs_to(61) + [(10000, 1), (10000, 9999), (9973, 5), (9999, 4000)]:
            numbers = chain_by_ceilings(Fraction(n, q))
            turned = pow(q, -1, n)
            check_same(self, saw_sum(q, n), pair((sum(numbers) - 3 * len(numbers) + Fraction(q + turned, n)) / 12))
            check_same(self, saw_sum(turned, n), saw_sum(q, n))
            check_same(self, saw_sum(n - q, n), pair(-Fraction(*saw_sum(q, n))))

    def test_edges(self):
        check_same(self, (saw_sum(0, 1), saw_sum(BIG, 1), saw_sum(-BIG, 1), saw_sum(1, 2)), ((0, 1),) * 4)
        check_same(self, saw_sum(BIG, 10000), saw_sum(BIG % 10000, 10000))
        check_same(self, saw_sum(-7, 10000), saw_sum(9993, 10000))

    def test_wrong_values_in_their_sequence(self):
        for value in (None, True, False, "1", (1, 1), [1], TOO_BIG, -TOO_BIG, LONG):
            check_error(self, InvalidNumber, value, saw_sum, value, 3)
            check_error(self, InvalidNumber, value, saw_sum, value, None)
        for value in (0, -1, 10001, None, True, False, "1", (3, 1), LONG):
            check_error(self, InvalidNumber, value, saw_sum, 1, value)
        for q, n in ((0, 2), (2, 4), (-3, 6), (0, 10000), (10 ** 59, 10000)):
            check_error(self, InvalidOperation, NO_VALUE, saw_sum, q, n)

    def test_7_7_shares(self):
        for n, q in pairs_to(40):
            check_same(self, chain_share(n, q), pair(Fraction(2 * (n - 1), n) - 12 * saw_by_words(q, n)))
            check_same(self, chain_share(n, q), share_of(made_line(chain_numbers(n, q))))
        numbers = chain_by_ceilings(Fraction(10000, 9999))
        check_same(self, chain_share(10000, 9999), pair(Fraction(len(numbers))))


class NotTrue(unittest.TestCase):
    def test_7_8(self):
        self.assertNotEqual(len(beside_chain((3,))), 1)
        self.assertEqual((saw_sum(8, 65), saw_sum(18, 65)), ((0, 1), (0, 1)))
        self.assertNotIn(chain_numbers(65, 18), (chain_numbers(65, 8), turned_chain(chain_numbers(65, 8))))
        self.assertEqual(chain_down((1, 1)), (0,))


if __name__ == "__main__":
    unittest.main()
