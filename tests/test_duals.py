"""Stage 4: [4.1] to [4.5], with [0.4], [0.5], [0.7] and [0.13], for tametrees.trees.duals."""

import itertools
import unittest
from fractions import Fraction

from tametrees.base.grids import determinant_of_rows
from tametrees.base.tables import undone
from tametrees.errors import InvalidNumber, InvalidOperation, InvalidTree, Refused
from tametrees.trees.definite import determinant_of, is_definite
from tametrees.trees.duals import dual_row, is_dual, left_determinant, path_between, undone_entry
from tametrees.trees.trees import Tree, made_tree
from tests.helpers import (
    BIG, LONG, NO_VALUE, TOO_BIG, check_error, check_same, made_line, made_star, neighbours_by_ties, odd_values, pair, plain,
    press_by_ties, random_trees,
)

FORK, BENT = Tree.star(2, ((2,), (2,), (2,))), Tree.line((2, 1, 3))
BARRED = Tree.line((1, 1))
FORTY = made_star(40, (1,) * 39)
NO_PLACES = (None, True, False, "0", (), (0,), [0], {}, -1, 40, BIG, TOO_BIG, -LONG)


def opposite_table(tree):
    return tuple(tuple(-entry for entry in row) for row in tree.table)


def left_by_table(tree, gone):
    """The determinant of the opposite table without the rows and columns of some places."""
    kept = [place for place in range(tree.size) if place not in gone]
    table = opposite_table(tree)
    return determinant_of_rows([[table[one][other] for other in kept] for one in kept]) if kept else 1


def definite_trees(seed, count, sizes):
    found = [tree for tree in random_trees(seed, count * 3, sizes, 1, 5) if is_definite(tree)]
    return found[:count] + [FORK, BENT, Tree((1,), ()), Tree((60,), ()), Tree.line((60,) * 12)]


def large_definite_trees():
    return [FORTY, made_line((2,) * 40), made_line((LONG,) * 40), made_tree((LONG,), ())] + [
        tree for tree in random_trees(40, 6, (40,), 3, 9) if is_definite(tree)]


class Paths(unittest.TestCase):
    def test_paths_lead_along_ties_without_repeats(self):
        for tree in random_trees(41, 30, range(1, 13), 0, 60) + [made_line(range(40)), FORTY]:
            for one, other in itertools.product(range(0, tree.size, 1 + tree.size // 13), repeat=2):
                path = path_between(tree, one, other)
                self.assertIs(type(path), tuple)
                self.assertEqual((path[0], path[-1], len(set(path))), (one, other, len(path)))
                for here, there in zip(path, path[1:]):
                    self.assertIn(there, neighbours_by_ties(tree, here))
                check_same(self, path_between(tree, other, one), path[::-1])
            check_same(self, path_between(tree, 0, 0), (0,))
        check_same(self, path_between(made_line((9,) * 40), 39, 0), tuple(reversed(range(40))))

    def test_trees_can_be_any(self):
        check_same(self, path_between(BARRED, 0, 1), (0, 1))
        check_same(self, path_between(Tree.line((0, 0, 0)), 2, 0), (2, 1, 0))

    def test_wrong_values(self):
        for value in NO_PLACES + (3,):
            check_error(self, InvalidNumber, value, path_between, BENT, value, 0)
            check_error(self, InvalidNumber, value, path_between, BENT, 0, value)
            check_error(self, InvalidNumber, value, path_between, BENT, value, None)
            check_error(self, InvalidNumber, value, path_between, BARRED, value, 7)
        for value in odd_values():
            if not isinstance(value, Tree):
                check_error(self, InvalidTree, NO_VALUE, path_between, value, 0, 0)
                check_error(self, InvalidTree, NO_VALUE, path_between, value, None, None)


class Left(unittest.TestCase):
    def test_all_choices_of_places(self):
        for tree in random_trees(42, 40, range(1, 8), 0, 4) + [FORK, BENT, BARRED]:
            for many in range(tree.size + 1):
                for gone in itertools.combinations(range(tree.size), many):
                    check_same(self, left_determinant(tree, gone), left_by_table(tree, gone))

    def test_no_place_and_all_places(self):
        for tree in random_trees(43, 20, range(1, 13), 0, 60) + large_definite_trees():
            check_same(self, left_determinant(tree, ()), determinant_of(tree))
            check_same(self, left_determinant(tree, tuple(range(tree.size))), 1)
            check_same(self, left_determinant(tree, tuple(range(0, tree.size, 3))), left_by_table(tree, range(0, tree.size, 3)))

    def test_ties_part_trees(self):
        for tree in random_trees(44, 40, range(2, 9), 0, 4):
            for one, other in tree.ties:
                here = [place for place in range(tree.size) if other not in path_between(tree, one, place)]
                there = [place for place in range(tree.size) if place not in here]
                whole = left_determinant(tree, tuple(there)) * left_determinant(tree, tuple(here))
                less = left_determinant(tree, tuple(sorted(there + [one]))) * left_determinant(tree, tuple(sorted(here + [other])))
                self.assertEqual(determinant_of(tree), whole - less)

    def test_places_part_trees(self):
        for tree in random_trees(45, 40, range(1, 9), 0, 4):
            for place in range(tree.size):
                total = tree[place] * left_determinant(tree, (place,))
                for other in tree.neighbours(place):
                    total -= left_determinant(tree, tuple(sorted((place, other))))
                self.assertEqual(determinant_of(tree), total)
                more = tree.with_number(place, tree[place] + 1)
                self.assertEqual(determinant_of(more) - determinant_of(tree), left_determinant(tree, (place,)))

    def test_wrong_values(self):
        for value in ((0, 0), (1, 0), (3,), (-1,), (0, 3), (True,), (False,), (0, True), [0], [], "0", "", {}, {0: 1}, None, True, 0,
                      ("0",), (None,), ((0, 1),), (BIG,), (0, TOO_BIG), BENT):
            check_error(self, InvalidOperation, NO_VALUE, left_determinant, BENT, value)
            check_error(self, InvalidOperation, NO_VALUE, left_determinant, Tree.line((0, 0, 0)), value)
        for value in odd_values():
            if not isinstance(value, Tree):
                check_error(self, InvalidTree, NO_VALUE, left_determinant, value, ())
                check_error(self, InvalidTree, NO_VALUE, left_determinant, value, None)


class Undone(unittest.TestCase):
    def test_entries_of_the_inverse(self):
        for tree in definite_trees(46, 40, range(1, 10)):
            expected = undone(opposite_table(tree))
            for one, other in itertools.product(range(tree.size), repeat=2):
                check_same(self, undone_entry(tree, one, other), expected[one][other])
            for place in range(tree.size):
                check_same(self, dual_row(tree, place), expected[place])

    def test_dual_rows_have_one_press(self):
        for tree in definite_trees(47, 30, range(1, 13)) + large_definite_trees():
            for place in range(0, tree.size, 1 + tree.size // 12):
                row = [Fraction(*entry) for entry in dual_row(tree, place)]
                self.assertEqual(press_by_ties(tree, row), [-int(place == other) for other in range(tree.size)])
                check_same(self, dual_row(tree, place), tuple(pair(entry) for entry in row))

    def test_what_undone_entries_keep(self):
        for tree in definite_trees(48, 25, range(1, 8)):
            e = [[Fraction(*entry) for entry in dual_row(tree, place)] for place in range(tree.size)]
            whole = determinant_of(tree)
            for u, w in itertools.product(range(tree.size), repeat=2):
                path = path_between(tree, u, w)
                self.assertEqual(e[u][w], Fraction(left_determinant(tree, tuple(sorted(path))), whole))
                self.assertEqual(e[u][w], e[w][u])
                self.assertGreater(e[u][w], 0)
                for z in path:
                    self.assertEqual(e[u][w] * e[z][z], e[u][z] * e[z][w])
                if u != w:
                    self.assertLess(e[u][w] ** 2, e[u][u] * e[w][w])

    def test_products_of_dual_rows(self):
        for tree in definite_trees(49, 20, range(1, 8)):
            rows = [dual_row(tree, place) for place in range(tree.size)]
            for u, w in itertools.product(range(tree.size), repeat=2):
                top, bottom = undone_entry(tree, u, w)
                check_same(self, tree.product(rows[u], rows[w]), (-top, bottom))
            row = tuple((place * 5) % 7 - 3 for place in range(tree.size))
            sums = [-sum(Fraction(*rows[place][w]) * Fraction(*press) for place, press in enumerate(tree.press(row)))
                    for w in range(tree.size)]
            self.assertEqual(sums, list(row))

    def test_greater_numbers_and_parts(self):
        for tree in definite_trees(50, 25, range(2, 8)):
            if max(tree.numbers) == 60:
                continue
            for z in range(tree.size):
                more = tree.with_number(z, tree[z] + 1)
                for u, w in itertools.product(range(tree.size), repeat=2):
                    uz, zw, zz, uw = (Fraction(*undone_entry(tree, *two)) for two in ((u, z), (z, w), (z, z), (u, w)))
                    check_same(self, undone_entry(more, u, w), pair(uw - uz * zw / (1 + zz)))
            for one, other in tree.ties:
                part = tree.part((one, other))
                if tree.size > 2:
                    for at, to in itertools.product((0, 1), repeat=2):
                        entry = Fraction(*undone_entry(tree, (one, other)[at], (one, other)[to]))
                        self.assertLess(Fraction(*undone_entry(part, at, to)), entry)

    def test_wrong_values(self):
        for value in NO_PLACES + (3,):
            check_error(self, InvalidNumber, value, undone_entry, BENT, value, 0)
            check_error(self, InvalidNumber, value, undone_entry, BENT, 0, value)
            check_error(self, InvalidNumber, value, undone_entry, BENT, value, -7)
            check_error(self, InvalidNumber, value, dual_row, BENT, value)
        for tree in (BARRED, Tree((0,), ()), made_star(39, (1,) * 39)):
            for value in NO_PLACES + (0,):
                check_error(self, Refused, ("bar",), undone_entry, tree, value, value)
                check_error(self, Refused, ("bar",), undone_entry, tree, 0, value)
                check_error(self, Refused, ("bar",), dual_row, tree, value)
        for value in odd_values():
            if not isinstance(value, Tree):
                check_error(self, InvalidTree, NO_VALUE, undone_entry, value, 0, 0)
                check_error(self, InvalidTree, NO_VALUE, undone_entry, value, None, None)
                check_error(self, InvalidTree, NO_VALUE, dual_row, value, 0)
                check_error(self, InvalidTree, NO_VALUE, dual_row, value, None)


class Dual(unittest.TestCase):
    def test_rows_are_dual_if_all_presses_are_integers(self):
        entries = [0, 1, (1, 2), (-1, 2), (1, 3), (3, 4), (2, 1)]
        for tree in (FORK, BENT, BARRED, Tree.line((2, 2)), Tree.line((0, 0)), Tree((2,), ()), Tree((0,), ())):
            for row in itertools.product(entries, repeat=tree.size):
                parts = [Fraction(*x) if isinstance(x, tuple) else Fraction(x) for x in row]
                expected = all(press.denominator == 1 for press in press_by_ties(tree, parts))
                self.assertIs(is_dual(tree, row), expected)

    def test_rows_have_integers_of_any_length(self):
        half = 10 ** 300
        self.assertIs(is_dual(FORK, (0, (2 * half + 1, 2), (1 - 2 * half, 2), LONG)), True)
        self.assertIs(is_dual(FORK, ((2 * half + 1, 2), 0, 0, 0)), False)
        self.assertIs(is_dual(made_tree((half,), ()), ((1, half),)), True)
        self.assertIs(is_dual(made_tree((half,), ()), ((1, half + 1),)), False)
        self.assertIs(is_dual(BENT, (LONG, -LONG, half)), True)

    def test_sums_of_dual_rows_of_places_are_dual(self):
        for tree in definite_trees(51, 20, range(1, 8)) + large_definite_trees():
            rows = [dual_row(tree, place) for place in range(0, tree.size, 1 + tree.size // 8)]
            for row in rows:
                self.assertIs(is_dual(tree, row), True)
            total = [sum(Fraction(*row[w]) * (at - 2) for at, row in enumerate(rows)) for w in range(tree.size)]
            self.assertIs(is_dual(tree, tuple(pair(Fraction(entry)) for entry in total)), True)
            total[0] += Fraction(1, 10 ** 250 + 1)
            self.assertIs(is_dual(tree, tuple(pair(Fraction(entry)) for entry in total)), False)

    def test_values_that_are_no_rows_of_numbers(self):
        for value in (["1", 0, -7], [1, 0, -7], (1, 0), (1, 0, -7, 0), (1, 0, True), (False, 0, 0), (1, 0, None), (1, 0, "1"), (1, 0, (2, 4)),
                      (1, 0, (2, 0)), (1, 0, (1, -1)), (1, 0, (True, 1)), (1, 0, (1, True)), (1, 0, [1, 1]), (1, 0, (1,)), (1, 0, (1, 1, 1)),
                      (1, 0, ()), (1, 0, {}), (1, 0, BENT), "100", {0: 1, 1: 0, 2: 0}, None, True, 3, BENT):
            self.assertIs(is_dual(BENT, value), False)
        for value in odd_values():
            for tree in (FORK, BENT, FORTY):
                self.assertIs(is_dual(tree, value), False)
                self.assertIs(type(is_dual(tree, (value,) * tree.size)), bool)
            right = type(value) is int or plain(value) in (plain((0, 1)), plain((1, 2)), plain((TOO_BIG, 1)))
            self.assertIs(is_dual(Tree((2,), ()), (value,)), right)

    def test_the_tree_is_checked_first(self):
        for value in odd_values():
            if not isinstance(value, Tree):
                check_error(self, InvalidTree, NO_VALUE, is_dual, value, (1,))
                check_error(self, InvalidTree, NO_VALUE, is_dual, value, value)


class NotTrue(unittest.TestCase):
    def test_4_5(self):
        self.assertEqual(dual_row(BENT, 0)[:2], ((2, 1), (3, 1)))
        self.assertEqual((left_determinant(FORK, (0,)), determinant_of(FORK)), (8, 4))
        for place in range(3):
            self.assertTrue(all(bottom == 1 for _, bottom in dual_row(BENT, place)))
        self.assertEqual(min(BENT.numbers), 1)


if __name__ == "__main__":
    unittest.main()
