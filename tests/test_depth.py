"""Stage 11: [11.1] to [11.8], with [0.7] and [0.14], for tametrees.rows.depth."""

import itertools
import math
import random
import unittest
from fractions import Fraction

from tametrees.errors import InvalidTree, Refused
from tametrees.rows.depth import DEPTHS, depth_of, even_row, k_multiple, k_row, share_of
from tametrees.rows.steps import least_cycle
from tametrees.rows.tame import is_least_sink, is_tame, worth
from tametrees.trees.chains import chain_numbers, chain_share
from tametrees.trees.definite import determinant_of
from tametrees.trees.kin import put_at_tie
from tametrees.trees.trees import Tree, made_tree
from tests.helpers import (
    LONG, NO_VALUE, check_error, check_same, definite_trees, fractions_of, is_at_or_above, k_by_elimination, made_line, made_star,
    odd_values, pair, press_by_ties, product_by_ties, put_up_often, wild_trees, worth_by_k, worth_by_numbers,
)
from tests.test_tame import all_trees, parts_without_one_place

CALLS = (k_row, k_multiple, share_of, depth_of, even_row)
SEVEN, LEGS = Tree.star(1, ((2,), (3,), (7,))), Tree.star(2, ((3,), (3,), (3,), (3,), (3,)))
ONE, BARRED = Tree((1,), ()), Tree.line((1, 1))


def many_trees():
    return definite_trees(111, 50, range(1, 9), 1, 5) + definite_trees(112, 8, (12,), 2, 60) + all_trees()


def depth_by_z(tree):
    found = worth_by_numbers(tree, least_cycle(tree))
    return "tame" if found == 1 else "even" if found == 0 else "deep"


class Rows(unittest.TestCase):
    def test_the_depths(self):
        check_same(self, DEPTHS, ("tame", "even", "deep"))

    def test_11_1_presses_of_k(self):
        for tree in many_trees():
            found = k_row(tree)
            check_same(self, found, tuple(pair(entry) for entry in k_by_elimination(tree)))
            self.assertEqual(press_by_ties(tree, fractions_of(found)), [number - 2 for number in tree])

    def test_11_1_worths(self):
        source = random.Random(113)
        for tree in many_trees():
            k = fractions_of(k_row(tree))
            row = [Fraction(source.randint(-9, 9), source.randint(1, 4)) for _ in tree]
            self.assertEqual(worth_by_k(tree, row), worth_by_k(tree, [-x - y for x, y in zip(k, row)]))
            self.assertEqual(worth_by_k(tree, [-x for x in k]), 0)
            whole = tuple(source.randint(-9, 9) for _ in tree)
            self.assertEqual(worth_by_k(tree, whole), worth(tree, whole))

    def test_11_2_signs_and_multiples(self):
        for tree in many_trees():
            k, multiple = fractions_of(k_row(tree)), k_multiple(tree)
            self.assertIs(type(multiple), int)
            self.assertEqual(multiple, next(m for m in itertools.count(1) if all((m * entry).denominator == 1 for entry in k)) if multiple < 2000
                             else math.lcm(*[entry.denominator for entry in k]))
            self.assertEqual(determinant_of(tree) % multiple, 0)
            if min(tree) >= 2:
                self.assertTrue(max(k) < 0 or not any(k))
                self.assertEqual(not any(k), set(tree) == {2})

    def test_lone_places(self):
        for number in (1, 2, 3, 60):
            tree = Tree((number,), ())
            check_same(self, (k_row(tree), k_multiple(tree)), ((pair(Fraction(2 - number, number)),), Fraction(2 - number, number).denominator))
            check_same(self, share_of(tree), pair(1 - Fraction((number - 2) ** 2, number)))
            check_same(self, depth_of(tree), "tame")

    def test_large_trees(self):
        for tree in (made_line((2,) * 40), made_star(40, (1,) * 39), made_line((LONG,) * 40), made_line((3,) * 40), made_star(20, (2,) * 39)):
            found = k_row(tree)
            self.assertEqual(press_by_ties(tree, fractions_of(found)), [number - 2 for number in tree])
            self.assertEqual(determinant_of(tree) % k_multiple(tree), 0)


class Shares(unittest.TestCase):
    def test_11_3_shares(self):
        source = random.Random(114)
        for tree in many_trees():
            k = k_by_elimination(tree)
            found = share_of(tree)
            check_same(self, found, pair(Fraction(product_by_ties(tree, k, k) + tree.size)))
            check_same(self, share_of(put_up_often(source, tree, 5)), found)

    def test_shares_of_lines(self):
        for n, q in ((2, 1), (7, 3), (61, 60), (397, 200), (9999, 4000), (10000, 3)):
            check_same(self, share_of(made_line(chain_numbers(n, q))), chain_share(n, q))


class Depths(unittest.TestCase):
    def test_11_4_by_the_worth_of_z(self):
        for tree in many_trees():
            check_same(self, depth_of(tree), depth_by_z(tree))
            self.assertEqual(depth_of(tree) == "tame", is_tame(tree))

    def test_11_4_even_trees_have_the_least_worth_0(self):
        for tree in [tree for tree in wild_trees() if tree.size <= 6]:
            worths = [worth_by_numbers(tree, row) for row in itertools.product(range(4), repeat=tree.size) if any(row)]
            if depth_of(tree) == "even":
                self.assertEqual(min(worths), 0)
        self.assertEqual(worth(LEGS, (3, 1, 1, 1, 1, 1)), -1)

    def test_there_are_trees_of_each_depth(self):
        found = [depth_of(tree) for tree in all_trees()]
        self.assertTrue(all(found.count(word) >= 5 for word in DEPTHS))

    def test_11_7_greater_numbers_parts_and_places_taken_down(self):
        source = random.Random(115)
        for tree in all_trees():
            at = DEPTHS.index(depth_of(tree))
            for place in range(tree.size):
                self.assertLessEqual(DEPTHS.index(depth_of(tree.with_number(place, min(60, tree[place] + 1)))), at)
            for kept in parts_without_one_place(tree):
                self.assertLessEqual(DEPTHS.index(depth_of(tree.part(kept))), at)
            check_same(self, depth_of(put_up_often(source, tree, 3)), DEPTHS[at])

    def test_very_many_steps(self):
        for tree, word in ((SEVEN, "even"), (LEGS, "deep"), (ONE, "tame"), (Tree.line((2, 2)), "tame")):
            higher = put_at_tie(tree, *tree.ties[-1]) if tree.ties else Tree.line((2, 1))
            while higher.size < 40:
                higher = put_at_tie(higher, *higher.ties[-1])
            check_same(self, depth_of(higher), word)
            if word == "even":
                found = even_row(higher)
                self.assertGreater(max(found), 10 ** 6)
                self.assertEqual(worth(higher, found), 0)
                self.assertIs(is_least_sink(higher, found), True)


class EvenRows(unittest.TestCase):
    def test_11_5_the_least_row_of_the_worth_0(self):
        for tree in all_trees():
            if depth_of(tree) != "even":
                check_error(self, Refused, (depth_of(tree),), even_row, tree)
                continue
            found = even_row(tree)
            self.assertTrue(type(found) is tuple and all(type(entry) is int for entry in found) and min(found) >= 0)
            self.assertEqual(worth_by_numbers(tree, found), 0)
            presses = press_by_ties(tree, found)
            self.assertTrue(all(presses[place] == 2 - tree[place] for place in range(tree.size) if found[place]))
            most = 4 if tree.size <= 5 else 2
            for row in itertools.product(range(most + 1), repeat=tree.size) if tree.size <= 7 else ():
                if any(row) and worth_by_numbers(tree, row) == 0:
                    self.assertTrue(is_at_or_above(row, found))

    def test_11_6_three_statements_that_go_together(self):
        seen = set()
        for tree in all_trees() + definite_trees(116, 30, (5, 6, 7), 2, 3):
            if min(tree) >= 2 and not is_tame(tree):
                z = least_cycle(tree)
                right = fractions_of(k_row(tree)) == [-entry for entry in z]
                self.assertEqual(depth_of(tree) == "even" and even_row(tree) == z, right)
                self.assertEqual(all(is_tame(tree.part(kept)) for kept in parts_without_one_place(tree)), right)
                seen.add(right)
        self.assertEqual(seen, {True, False})

    def test_entries_can_be_0(self):
        tree = made_tree(tuple(SEVEN) + (2,), SEVEN.ties + ((3, 4),))
        check_same(self, (depth_of(tree), even_row(tree)), ("even", (2, 1, 1, 1, 0)))


class Errors(unittest.TestCase):
    def test_no_trees(self):
        for value in odd_values():
            if not isinstance(value, Tree):
                for call in CALLS:
                    check_error(self, InvalidTree, NO_VALUE, call, value)

    def test_trees_that_are_not_definite(self):
        for tree in (BARRED, Tree((0,), ()), Tree((2,) * 5, ((0, 1), (0, 2), (0, 3), (0, 4))), made_star(39, (1,) * 39), Tree.line((0, 5))):
            for call in CALLS:
                check_error(self, Refused, ("bar",), call, tree)

    def test_trees_without_an_even_row(self):
        for tree in (ONE, Tree.line((2, 2)), made_line((2,) * 40), Tree.star(2, ((2,), (2,), (2,)))):
            check_error(self, Refused, ("tame",), even_row, tree)
        for tree in (LEGS, Tree.star(4, ((2,),) * 7), made_star(20, (2,) * 39), Tree.star(3, ((4,),) * 8)):
            check_error(self, Refused, ("deep",), even_row, tree)


class NotTrue(unittest.TestCase):
    def test_11_8(self):
        line = Tree.line((2, 2, 2))
        self.assertEqual((k_multiple(line), determinant_of(line)), (1, 4))
        self.assertNotEqual(fractions_of(k_row(SEVEN)), [-entry for entry in least_cycle(SEVEN)])
        four = Tree.star(2, ((2,), (2,), (2,), (3,)))
        self.assertFalse(is_tame(four) or any(not is_tame(four.part(kept)) for kept in parts_without_one_place(four)))
        self.assertIn(0, even_row(made_tree(tuple(SEVEN) + (2,), SEVEN.ties + ((3, 4),))))


if __name__ == "__main__":
    unittest.main()
