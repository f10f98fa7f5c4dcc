"""Stage 3: [3.1] to [3.6], with [0.4] to [0.7], [0.11], [0.12] and [0.17], for tametrees.trees.definite."""

import itertools
import unittest
from fractions import Fraction

from tametrees.base.grids import determinant_of_rows
from tametrees.base.tables import determinant
from tametrees.errors import InvalidTree
from tametrees.trees.definite import definite_paper, determinant_of, is_definite, is_definite_paper, minors, pivots
from tametrees.trees.trees import Tree, made_tree
from tests.helpers import (
    BIG, LONG, NO_VALUE, check_error, check_same, made_line, made_star, neighbours_by_ties, odd_values, pair,
    product_by_ties, random_trees, small_trees,
)
from tests.test_tables import determinant_by_fractions

FORK = Tree((2, 2, 2, 2), ((0, 1), (0, 2), (0, 3)))
FIVE = Tree((2, 2, 2, 2, 2), ((0, 1), (0, 2), (0, 3), (0, 4)))
HUGE = 10 ** 120


def opposite_table(tree):
    return tuple(tuple(-entry for entry in row) for row in tree.table)


def corner(table, many):
    return tuple(row[:many] for row in table[:many])


def children_of(tree):
    """For each place its neighbours on the other side than the place 0."""
    parents, order = {0: None}, [0]
    for place in order:
        for other in neighbours_by_ties(tree, place):
            if other != parents[place]:
                parents[other] = place
                order.append(other)
    return order, {place: [other for other in order if parents[other] == place] for place in order}


def pivots_by_fractions(tree):
    """The pivots as [3.2] tells them."""
    order, children = children_of(tree)
    behind = {}
    found = {}
    for place in reversed(order):
        behind[place] = sum(([child] + behind[child] for child in children[place]), [])
        found[place] = None
        if all(found[other] is not None and found[other] > 0 for other in behind[place]):
            found[place] = tree[place] - sum((1 / found[child] for child in children[place]), Fraction(0))
    return [found[place] for place in range(tree.size)]


def many_trees():
    trees = [tree for size in (1, 2, 3) for tree in small_trees(size, (0, 1, 2))]
    trees += random_trees(31, 120, range(1, 9), 0, 4) + random_trees(32, 40, range(6, 13), 1, 3)
    return trees + [FORK, FIVE, Tree((0,), ()), Tree((60,), ()), Tree.line((60,) * 12), Tree.line((0,) * 12)]


def large_trees():
    """Trees of forty places, or with numbers of any length, that only the package makes."""
    trees = random_trees(33, 8, (40,), 1, 5) + random_trees(34, 8, (30, 40), 2, 9) + random_trees(35, 2, (40,), 0, HUGE)
    return trees + [made_line((2,) * 40), made_star(40, (1,) * 39), made_star(39, (1,) * 39), made_star(38, (1,) * 39),
                    made_line((HUGE,) * 40), made_tree((LONG,), ()), made_line((0,) * 40)]


class Definite(unittest.TestCase):
    def test_definite_trees_are_those_with_all_corners_above_0(self):
        for tree in many_trees():
            table = opposite_table(tree)
            expected = all(determinant_by_fractions(corner(table, many)) > 0 for many in range(1, tree.size + 1))
            self.assertIs(is_definite(tree), expected)

    def test_definite_trees_are_those_with_all_pivots_above_0(self):
        for tree in many_trees() + large_trees():
            self.assertIs(is_definite(tree), all(pivot is not None and pivot > 0 for pivot in pivots_by_fractions(tree)))

    def test_small_rows_have_products_below_0_just_in_definite_trees(self):
        for size in (1, 2, 3):
            for tree in small_trees(size, (0, 1, 2)):
                rows = [row for row in itertools.product(range(-3, 4), repeat=size) if any(row)]
                self.assertIs(is_definite(tree), all(product_by_ties(tree, row, row) < 0 for row in rows))

    def test_parts_and_greater_numbers_keep_trees_definite(self):
        for tree in random_trees(36, 60, range(2, 8), 1, 4):
            if is_definite(tree):
                for place in range(tree.size):
                    self.assertIs(is_definite(tree.with_number(place, tree[place] + 1)), True)
                    for other in tree.neighbours(place):
                        self.assertIs(is_definite(tree.part(tuple(sorted((place, other))))), True)

    def test_lone_places(self):
        for number in (0, 1, 2, 60):
            tree = Tree((number,), ())
            self.assertIs(is_definite(tree), number > 0)
            check_same(self, pivots(tree), ((number, 1),))
            check_same(self, (determinant_of(tree), minors(tree)), (number, (number,)))

    def test_no_trees(self):
        for value in odd_values():
            if not isinstance(value, Tree):
                for call in (is_definite, pivots, determinant_of, minors, definite_paper):
                    check_error(self, InvalidTree, NO_VALUE, call, value)


class Pivots(unittest.TestCase):
    def test_pivots(self):
        for tree in many_trees() + large_trees():
            check_same(self, pivots(tree), tuple(None if x is None else pair(Fraction(x)) for x in pivots_by_fractions(tree)))

    def test_the_determinant_is_the_product_of_all_pivots(self):
        for tree in many_trees() + large_trees():
            found = pivots(tree)
            if None not in found:
                total = Fraction(1)
                for pivot in found:
                    total *= Fraction(*pivot)
                check_same(self, determinant_of(tree), int(total))
                self.assertEqual(total.denominator, 1)


class Determinants(unittest.TestCase):
    def test_determinants(self):
        for tree in many_trees():
            check_same(self, determinant_of(tree), determinant(opposite_table(tree)))
            check_same(self, determinant_of(tree), determinant_by_fractions(opposite_table(tree)))

    def test_minors(self):
        for tree in many_trees():
            table = opposite_table(tree)
            check_same(self, minors(tree), tuple(determinant(corner(table, many)) for many in range(1, tree.size + 1)))

    def test_large_trees(self):
        for tree in large_trees():
            table = opposite_table(tree)
            check_same(self, determinant_of(tree), determinant_of_rows(table))
            found = minors(tree)
            self.assertEqual((type(found), len(found)), (tuple, tree.size))
            for many in (1, 7, 20, 40):
                if many <= tree.size:
                    check_same(self, found[many - 1], determinant_of_rows(corner(table, many)))
        check_same(self, determinant_of(made_line((2,) * 40)), 41)
        check_same(self, minors(made_line((2,) * 40)), tuple(range(2, 42)))
        check_same(self, minors(made_star(40, (1,) * 39)), tuple(range(40, 0, -1)))

    def test_definite_trees_have_a_determinant_of_at_least_1(self):
        for tree in many_trees() + large_trees():
            if is_definite(tree):
                self.assertGreaterEqual(determinant_of(tree), 1)


class Papers(unittest.TestCase):
    def test_each_tree_has_a_paper_of_just_one_kind(self):
        for tree in many_trees() + large_trees():
            paper = definite_paper(tree)
            self.assertEqual((type(paper), len(paper)), (tuple, 2))
            self.assertIs(is_definite_paper(tree, paper), True)
            if is_definite(tree):
                check_same(self, paper, ("pivots", pivots(tree)))
            else:
                self.assertEqual(paper[0], "bar")
                self.check_bar(tree, paper[1])

    def check_bar(self, tree, row):
        self.assertEqual((type(row), len(row), {type(entry) for entry in row}), (tuple, tree.size, {int}))
        self.assertTrue(any(row))
        self.assertGreaterEqual(product_by_ties(tree, row, row), 0)

    def test_3_5_the_product_is_the_opposite_of_the_pivot(self):
        for tree in many_trees():
            found = pivots_by_fractions(tree)
            _, children = children_of(tree)
            for place in range(tree.size):
                if found[place] is not None and found[place] <= 0:
                    row = [Fraction(0)] * tree.size
                    row[place] = Fraction(1)
                    waiting = [place]
                    while waiting:
                        here = waiting.pop()
                        for child in children[here]:
                            row[child] = row[here] / found[child]
                            waiting.append(child)
                    self.assertEqual(product_by_ties(tree, row, row), -found[place])

    def test_every_bar_is_accepted_and_nothing_else(self):
        for size in (1, 2, 3):
            for tree in small_trees(size, (0, 1, 2)):
                for row in itertools.product(range(-2, 3), repeat=size):
                    right = any(row) and product_by_ties(tree, row, row) >= 0
                    self.assertIs(is_definite_paper(tree, ("bar", row)), right)

    def test_bars_can_have_integers_of_any_length(self):
        for factor in (BIG, -BIG, LONG, -LONG, HUGE):
            row = tuple(factor * entry for entry in (2, 1, 1, 1, 1))
            self.assertIs(is_definite_paper(FIVE, ("bar", row)), True)
            self.assertIs(is_definite_paper(FIVE, ("bar", (row[0] + 1,) + row[1:])), False)
            self.assertIs(is_definite_paper(FORK, ("bar", row[:4])), False)
        self.assertIs(is_definite_paper(made_star(39, (1,) * 39), ("bar", (LONG,) * 40)), True)
        self.assertIs(is_definite_paper(made_star(40, (1,) * 39), ("bar", (LONG,) * 40)), False)

    def test_bars_near_right_ones(self):
        for shown in ((2, 1, 1, 1), (2, 1, 1, 1, 1, 0), [2, 1, 1, 1, 1], (2, 1, 1, 1, True), (2, 1, 1, 1, (1, 1)), (2, 1, 1, 1, None),
                      (2, 1, 1, 1, "1"), (0, 0, 0, 0, 0), (False,) * 5, (2, 1, 1, 1, 2), (1, 1, 1, 1, 1), (), None, 2, "21111", FIVE):
            with self.subTest(repr(shown)):
                self.assertIs(is_definite_paper(FIVE, ("bar", shown)), False)
        for word in ("Bar", "bars", "", "pivots", "pivot", None, True, ("bar",), ["bar"], 0):
            self.assertIs(is_definite_paper(FIVE, (word, (2, 1, 1, 1, 1))), False)
        row = (2, 1, 1, 1, 1)
        for value in (["bar", row], ("bar", row, row), ("bar",), (row, "bar"), {"bar": row}, row, "bar", None, ("bar", (row,))):
            self.assertIs(is_definite_paper(FIVE, value), False)

    def test_pivots_near_right_ones(self):
        for tree in (Tree.line((2, 2)), FORK, Tree((1,), ()), Tree.line((3,) * 12), made_line((LONG,) * 40), made_star(40, (1,) * 39)):
            found = pivots(tree)
            self.assertIs(is_definite_paper(tree, ("pivots", found)), True)
            self.assertIs(is_definite_paper(tree, ("pivots", tuple(tuple(pivot) for pivot in list(found)))), True)
            top, bottom = found[0]
            for other in ((top + 1, bottom), (top, bottom + 1), (2 * top, 2 * bottom), (-top, -bottom), (top, bottom, 1), (top,),
                          [top, bottom], top, None, True, (str(top), bottom), (top, None), ((top, 1), bottom)):
                self.assertIs(is_definite_paper(tree, ("pivots", (other,) + found[1:])), False)
            for shown in (found[1:], found + ((1, 1),), list(found), (), None, dict(enumerate(found)), found[0], (found,)):
                self.assertIs(is_definite_paper(tree, ("pivots", shown)), False)
            for value in (("bar", found), ["pivots", found], ("pivots",), ("pivots", found, found), (found, "pivots"), found):
                self.assertIs(is_definite_paper(tree, value), False)
        self.assertIs(is_definite_paper(Tree((1,), ()), ("pivots", ((True, 1),))), False)
        self.assertIs(is_definite_paper(Tree((1,), ()), ("pivots", ((1, True),))), False)
        self.assertIs(is_definite_paper(Tree((1,), ()), ("pivots", (1,))), False)

    def test_pivots_of_trees_that_are_not_definite_are_no_paper(self):
        for tree in (FIVE, Tree.line((3, 1, 1)), Tree((0,), ()), Tree.line((1, 1, 3))):
            self.assertIs(is_definite_paper(tree, ("pivots", pivots(tree))), False)

    def test_odd_values_are_judged(self):
        for value in odd_values():
            for tree in (FIVE, FORK, Tree((0,), ()), Tree((3,), ()), made_line((2,) * 40)):
                right = tree == Tree((0,), ()) and value == ("bar", (1,))
                self.assertIs(is_definite_paper(tree, value), right)
                for word in ("bar", "pivots"):
                    self.assertIs(type(is_definite_paper(tree, (word, value))), bool)
                    self.assertIs(type(is_definite_paper(tree, (value, word))), bool)
                    self.assertIs(is_definite_paper(FIVE, (word, (value,) * 5)), word == "bar" and type(value) is int and
                                  value != 0 and product_by_ties(FIVE, (value,) * 5, (value,) * 5) >= 0)

    def test_the_tree_is_checked_first(self):
        for value in odd_values():
            if not isinstance(value, Tree):
                check_error(self, InvalidTree, NO_VALUE, is_definite_paper, value, ("bar", (1,)))
                check_error(self, InvalidTree, NO_VALUE, is_definite_paper, value, value)


class NotTrue(unittest.TestCase):
    def test_3_6(self):
        self.assertTrue(min(FIVE.numbers) == 2 and not is_definite(FIVE))
        self.assertTrue(determinant_of(Tree.line((1,) * 6)) == 1 and not is_definite(Tree.line((1,) * 6)))
        for places in ((0, 1, 2, 3), (0, 2, 3, 4), (1,)):
            self.assertIs(is_definite(FIVE.part(places)), True)


if __name__ == "__main__":
    unittest.main()
