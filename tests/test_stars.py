"""Stage 15: [15.1] to [15.7], with [0.4] to [0.7], for tametrees.low.stars."""

import itertools
import math
import random
import unittest
from fractions import Fraction

from tametrees.errors import InvalidNumber, InvalidOperation, Refused, TooMany
from tametrees.low.boxes import class_count
from tametrees.low.near import lifted_row, near_count, near_places, tau
from tametrees.low.stars import (
    MAX_LEGS, MOST_TAU, MOST_TOP, is_star_definite, star_count, star_tau, star_tree, triple_count, triple_star,
)
from tametrees.rows.tame import is_tame
from tametrees.trees.chains import chain_numbers
from tametrees.trees.definite import determinant_of, is_definite
from tametrees.trees.trees import Tree, are_alike
from tests.helpers import LONG, NO_VALUE, check_error, check_same, odd_values

HALVES = ((2, 1), (3, 1), (7, 1))
WRONG_PAIRS = (
    None, 1, "pairs", [], [(2, 1)], ((2, 1),) * 9, ((2, 2),), ((1, 1),), ((2, 0),), ((4, 2),), ((1001, 1),), ((2, -1),), ((3, 4),), ((2, True),),
    ((True, 1),), ([2, 1],), ((2, 1, 1),), ((2,),), (2, 1), ((2, 1), None), ((2, 1), ()), ((LONG, 1),), (((2, 1), 1),), ((2, "1"),), {2: 1},
)


def random_pairs(source, many, most):
    pairs = []
    while len(pairs) < many:
        top = source.randint(2, most)
        bottom = source.randint(1, top - 1)
        if math.gcd(top, bottom) == 1:
            pairs.append((top, bottom))
    return tuple(pairs)


def stars(seed, count, most_legs=5, most=9):
    source = random.Random(seed)
    return [(source.randint(0, 5), random_pairs(source, source.randint(0, most_legs), most)) for _ in range(count)]


def excess(number, pairs):
    return number - sum(Fraction(bottom, top) for top, bottom in pairs)


def rise_by_words(number, pairs, i):
    return 1 + number * i - sum(math.ceil(Fraction(i * bottom, top)) for top, bottom in pairs)


def coprime_triples(most):
    for triple in itertools.product(range(2, most + 1), repeat=3):
        if all(math.gcd(*pair) == 1 for pair in itertools.combinations(triple, 2)):
            yield triple


class Trees(unittest.TestCase):
    def test_the_bounds(self):
        check_same(self, (MAX_LEGS, MOST_TOP, MOST_TAU), (8, 1000, 1000))

    def test_15_1_stars(self):
        for number, pairs in stars(501, 60, 4, 7):
            legs = [chain_numbers(top, bottom) for top, bottom in pairs]
            size = 1 + sum(map(len, legs))
            if size > 40:
                check_error(self, TooMany, 40, star_tree, number, pairs)
                continue
            tree = star_tree(number, pairs)
            self.assertIs(type(tree), Tree)
            if size <= 12:
                self.assertEqual(tree, Tree.star(number, tuple(legs)))
            check_same(self, tree.numbers, (number,) + sum(legs, ()))
            starts = [1 + sum(map(len, legs[:at])) for at in range(len(legs))]
            ties = {(0, start) for start in starts} | {(at, at + 1) for at in range(1, size - 1) if at + 1 not in starts}
            check_same(self, tree.ties, tuple(sorted(ties)))

    def test_sizes_of_40_and_41(self):
        tree = star_tree(60, ((40, 39),))
        check_same(self, (tree.size, tree.numbers), (40, (60,) + (2,) * 39))
        check_error(self, TooMany, 40, star_tree, 60, ((41, 40),))
        check_error(self, TooMany, 40, star_tree, 60, ((1000, 999),) * 8)
        tree = star_tree(0, ((20, 19), (21, 20)))
        self.assertEqual((tree.size, tree.degrees[0]), (40, 2))
        check_error(self, TooMany, 40, star_tree, 0, ((21, 20), (21, 20)))
        check_error(self, TooMany, 40, star_tree, 0, ((21, 20), (20, 19), (2, 1)))

    def test_numbers_and_legs_at_their_bounds(self):
        check_same(self, star_tree(0, ()).numbers, (0,))
        check_same(self, star_tree(60, ()).numbers, (60,))
        check_same(self, star_tree(3, ((1000, 1),) * 8).numbers, (3,) + (1000,) * 8)
        self.assertEqual(star_tree(5, ()), Tree((5,), ()))

    def test_15_2_determinants(self):
        for number, pairs in stars(502, 80):
            try:
                tree = star_tree(number, pairs)
            except TooMany:
                continue
            self.assertEqual(determinant_of(tree), math.prod(top for top, _ in pairs) * excess(number, pairs))
            check_same(self, is_star_definite(number, pairs), is_definite(tree))
            self.assertEqual(is_definite(tree), excess(number, pairs) > 0)

    def test_just_definite_and_just_not(self):
        check_same(self, is_star_definite(1, ((2, 1), (3, 1), (6, 1))), False)
        check_same(self, is_star_definite(1, ((2, 1), (3, 1), (7, 1))), True)
        check_same(self, is_star_definite(1, ((2, 1), (2, 1))), False)
        check_same(self, is_star_definite(1, ((1000, 999),)), True)
        check_same(self, is_star_definite(8, ((1000, 999),) * 8), True)
        check_same(self, is_star_definite(7, ((1000, 999),) * 8), False)
        check_same(self, is_star_definite(0, ()), False)
        check_same(self, is_star_definite(1, ()), True)


class Taus(unittest.TestCase):
    def test_15_3_rises(self):
        for number, pairs in stars(503, 60, 8, 30):
            found = star_tau(number, pairs, 40)
            self.assertEqual(len(found), 41)
            self.assertEqual(found[0], 0)
            for i in range(40):
                self.assertEqual(found[i + 1] - found[i], rise_by_words(number, pairs, i))

    def test_15_3_definite_stars_are_near_tame_at_the_middle(self):
        compared = 0
        for number, pairs in stars(504, 120, 5, 8):
            if is_star_definite(number, pairs):
                try:
                    tree, zero = star_tree(number, pairs), None
                    zero = (0,) * tree.size
                    self.assertIn(0, near_places(tree))
                except TooMany:
                    continue
                check_same(self, tau(tree, 0, zero, 60), star_tau(number, pairs, 60))
                row = lifted_row(tree, 0, zero, 11)
                firsts = [place for place in tree.neighbours(0)]
                self.assertEqual([row[place] for place in firsts], [math.ceil(Fraction(11 * bottom, top)) for top, bottom in pairs])
                compared += 1
        self.assertGreater(compared, 30)

    def test_any_star_has_tau(self):
        check_same(self, star_tau(0, (), 0), (0,))
        check_same(self, star_tau(0, (), 5), (0, 1, 2, 3, 4, 5))
        check_same(self, star_tau(60, ((1000, 999),) * 8, 2), (0, 1, 54))
        self.assertEqual(len(star_tau(0, HALVES, 1000)), 1001)
        self.assertLess(star_tau(0, HALVES, 1000)[-1], 0)

    def test_wrong_manies(self):
        for value in odd_values():
            if type(value) is not int or not 0 <= value <= 1000:
                check_error(self, InvalidNumber, value, star_tau, 1, HALVES, value)
        for value in (-1, 1001):
            check_error(self, InvalidNumber, value, star_tau, 1, HALVES, value)


class Counts(unittest.TestCase):
    def test_15_4_falls(self):
        compared = 0
        for number, pairs in stars(505, 200, 6, 12):
            e = excess(number, pairs)
            if e <= 0:
                check_error(self, Refused, ("bar",), star_count, number, pairs)
            elif Fraction(len(pairs)) / e > 1000:
                check_error(self, TooMany, 1000, star_count, number, pairs)
            else:
                last = math.ceil(Fraction(len(pairs)) / e) + 3
                rises = [rise_by_words(number, pairs, i) for i in range(last)]
                self.assertTrue(all(rise >= 1 - len(pairs) + i * e for i, rise in enumerate(rises)))
                check_same(self, star_count(number, pairs), sum(-rise for rise in rises if rise < 0))
                compared += 1
        self.assertGreater(compared, 60)

    def test_counts_of_trees(self):
        compared = 0
        for number, pairs in stars(506, 150, 5, 6):
            if is_star_definite(number, pairs):
                try:
                    tree = star_tree(number, pairs)
                    counts = (near_count(tree, 0, (0,) * tree.size), class_count(tree, (0,) * tree.size))
                except TooMany:
                    continue
                self.assertEqual(counts, (star_count(number, pairs),) * 2)
                compared += 1
        self.assertGreater(compared, 30)

    def test_the_bound_1000(self):
        # Here k / e is the number of the legs, divided by 1 / top.
        check_same(self, star_count(1, ((1000, 999),)), 0)
        check_same(self, star_count(2, ((500, 499), (500, 499))), 0)
        check_error(self, TooMany, 1000, star_count, 1, ((501, 250), (501, 250)))
        check_same(self, star_count(1, ((333, 166), (333, 166))), 0)
        check_same(self, star_count(1, ((499, 249), (499, 249))), 0)
        # k / e is 3 times 333 for the first one.
        self.assertEqual(excess(1, ((3, 1), (9, 4), (37, 8))), Fraction(2, 333))
        self.assertGreater(star_count(1, ((3, 1), (9, 4), (37, 8))), 0)
        check_error(self, Refused, ("bar",), star_count, 1, ((2, 1), (2, 1)))
        # Here k / e is just 1000.
        pairs = ((1000, 999),) * 8
        self.assertEqual(Fraction(8) / excess(8, pairs), 1000)
        check_same(self, star_count(8, pairs), sum(max(0, -rise_by_words(8, pairs, i)) for i in range(1001)))
        check_same(self, star_count(5, ()), 0)
        check_error(self, Refused, ("bar",), star_count, 0, ())


class Triples(unittest.TestCase):
    def test_15_5_stars_of_triples(self):
        for p, q, r in coprime_triples(14):
            number, pairs = triple_star(p, q, r)
            check_same(self, [top for top, _ in pairs], [p, q, r])
            self.assertTrue(all(1 <= bottom < top for top, bottom in pairs))
            self.assertEqual(excess(number, pairs), Fraction(1, p * q * r))
            self.assertIs(type(number), int)
            self.assertIs(type(pairs), tuple)
            try:
                self.assertEqual(determinant_of(star_tree(number, pairs)), 1)
            except TooMany:
                pass
        check_same(self, triple_star(60, 59, 53)[1][0][0], 60)

    def test_15_6_counts_of_triples(self):
        for p, q, r in coprime_triples(10):
            expected = sum(Fraction(i, p) + Fraction(j, q) + Fraction(k, r) <= 1
                           for i in range(1, p) for j in range(1, q) for k in range(1, r))
            check_same(self, triple_count(p, q, r), expected)
            try:
                check_same(self, star_count(*triple_star(p, q, r)), expected)
            except TooMany:
                pass
            try:
                tree = star_tree(*triple_star(p, q, r))
            except TooMany:
                continue
            check_same(self, near_count(tree, 0, (0,) * tree.size), expected)

    def test_great_triples(self):
        for p, q, r in ((60, 59, 53), (58, 57, 59), (60, 49, 59)):
            lines = sum(max(0, (p * q * r - i * q * r - j * p * r) // (p * q)) for i in range(1, p) for j in range(1, q))
            check_same(self, triple_count(p, q, r), lines)

    def test_wrong_triples(self):
        for call in (triple_star, triple_count):
            for value in (None, True, 1, 0, -2, 61, "2", (2,), 2 ** 70, LONG):
                check_error(self, InvalidNumber, value, call, value, None, 0)
                check_error(self, InvalidNumber, value, call, 2, value, 0)
                check_error(self, InvalidNumber, value, call, 2, 2, value)
            for triple in ((2, 3, 4), (2, 4, 3), (3, 2, 4), (5, 5, 3), (6, 35, 15), (60, 7, 10), (2, 2, 2)):
                check_error(self, InvalidOperation, NO_VALUE, call, *triple)


class Errors(unittest.TestCase):
    def test_wrong_numbers(self):
        for value in odd_values():
            if type(value) is not int or not 0 <= value <= 60:
                for call in (star_tree, is_star_definite, star_count):
                    check_error(self, InvalidNumber, value, call, value, value)
                check_error(self, InvalidNumber, value, star_tau, value, value, value)
        check_error(self, InvalidNumber, 61, star_tree, 61, HALVES)

    def test_wrong_pairs(self):
        for value in WRONG_PAIRS:
            for call in (star_tree, is_star_definite, star_count):
                check_error(self, InvalidOperation, NO_VALUE, call, 1, value)
            check_error(self, InvalidOperation, NO_VALUE, star_tau, 1, value, -1)
        for value in odd_values():
            if value not in ((), ((1, 2), (1, 3))) and value != ():
                check_error(self, InvalidOperation, NO_VALUE, star_tree, 1, value)

    def test_eight_legs_and_nine(self):
        self.assertEqual(star_tree(9, ((2, 1),) * 8).size, 9)
        check_error(self, InvalidOperation, NO_VALUE, star_tree, 9, ((2, 1),) * 9)
        check_error(self, InvalidOperation, NO_VALUE, star_count, 0, ((2, 1),) * 9)

    def test_errors_that_come_last(self):
        check_error(self, InvalidOperation, NO_VALUE, star_tree, 1, ((1000, 999),) * 9)
        check_error(self, Refused, ("bar",), star_count, 0, ((1000, 999),) * 8)
        check_error(self, TooMany, 1000, star_count, *triple_star(7, 8, 9))


class NotTrue(unittest.TestCase):
    def test_15_7(self):
        tree = star_tree(2, ((2, 1), (3, 2), (5, 4)))
        self.assertTrue(tree[0] < tree.degrees[0] and is_tame(tree))
        self.assertLess(min(star_tau(*triple_star(3, 5, 7), 100)), 0)
        one, other = star_tree(*triple_star(2, 3, 7)), star_tree(*triple_star(2, 3, 11))
        self.assertEqual((determinant_of(one), determinant_of(other)), (1, 1))
        self.assertEqual((triple_count(2, 3, 7), triple_count(2, 3, 11)), (1, 1))
        self.assertIs(are_alike(one, other), False)


if __name__ == "__main__":
    unittest.main()
