"""Stage 2: codes, likenesses and names, [2.2] to [2.5], with [0.4], [0.5], [0.7] and [0.9]."""

import itertools
import math
import unittest

from tametrees.errors import InvalidOperation, InvalidTree
from tametrees.trees.trees import Tree, are_alike, is_likeness, likenesses, renamed, tree_code
from tests.helpers import (
    BIG, NO_VALUE, TOO_BIG, check_error, check_same, made_line, made_star, neighbours_by_ties, odd_values,
    product_by_ties, random_trees, small_trees,
)

LINE = Tree.line((2, 3, 2))
STAR = Tree.star(2, ((2,), (3,), (2, 4)))
FORTY = made_line((99,) * 40)


def walks(tree, root, parent=None, depth=0):
    """All tuples of pairs that walks from a root tell, in every order of the neighbours."""
    behind = [place for place in neighbours_by_ties(tree, root) if place != parent]
    for order in itertools.permutations(behind):
        for told in itertools.product(*[list(walks(tree, place, root, depth + 1)) for place in order]):
            yield ((depth, tree.numbers[root]),) + sum(told, ())


def code_by_walks(tree):
    return min(walk for root in range(tree.size) for walk in walks(tree, root))


def likenesses_by_trying(one, other):
    if one.size != other.size:
        return []
    ties = set(other.ties)
    found = []
    for order in itertools.permutations(range(one.size)):
        if all(one.numbers[place] == other.numbers[order[place]] for place in range(one.size)):
            if all(tuple(sorted((order[u], order[w]))) in ties for u, w in one.ties):
                found.append(order)
    return found


class Codes(unittest.TestCase):
    def test_codes_of_small_trees_are_the_least_walks(self):
        for size, numbers in ((1, (0, 60)), (2, (0, 1, 60)), (3, (1, 2)), (4, (1, 2))):
            for tree in small_trees(size, numbers):
                check_same(self, tree_code(tree), code_by_walks(tree))

    def test_codes_of_middle_trees(self):
        for tree in random_trees(11, 60, (5, 6, 7), 1, 3) + random_trees(12, 6, (8,), 2, 2):
            check_same(self, tree_code(tree), code_by_walks(tree))

    def test_codes_of_large_trees(self):
        # A code is least if it falls back soon, so the root of a line of equal numbers is next to an end.
        check_same(self, tree_code(FORTY), ((0, 99), (1, 99)) + tuple((depth, 99) for depth in range(1, 39)))
        check_same(self, tree_code(made_star(0, (BIG + 1,) * 39)), ((0, 0),) + ((1, BIG + 1),) * 39)
        check_same(self, tree_code(Tree((60,), ())), ((0, 60),))
        check_same(self, tree_code(Tree.star(0, ((1,),) * 11)), ((0, 0),) + ((1, 1),) * 11)

    def test_alike_trees_are_those_with_equal_codes_and_with_likenesses(self):
        trees = [tree for size in (1, 2, 3) for tree in small_trees(size, (1, 2))] + list(small_trees(4, (1,)))
        for one, other in itertools.product(trees, repeat=2):
            alike = len(likenesses_by_trying(one, other)) > 0
            self.assertIs(are_alike(one, other), alike)
            self.assertEqual(tree_code(one) == tree_code(other), alike)

    def test_renamed_large_trees_are_alike(self):
        for tree in random_trees(13, 10, (12, 25, 40), 0, 2):
            other = renamed(tree, tuple((place * 7 + 3) % tree.size for place in range(tree.size)) if tree.size % 7
                            else tuple(reversed(range(tree.size))))
            self.assertIs(are_alike(tree, other), True)
            self.assertIs(are_alike(other, tree), True)
            self.assertIs(are_alike(tree, other.with_number(0, 60)), False)

    def test_no_trees(self):
        for value in odd_values():
            if not isinstance(value, Tree):
                check_error(self, InvalidTree, NO_VALUE, tree_code, value)
                check_error(self, InvalidTree, NO_VALUE, are_alike, value, LINE)
                check_error(self, InvalidTree, NO_VALUE, are_alike, LINE, value)
                check_error(self, InvalidTree, NO_VALUE, are_alike, value, None)

    def test_what_is_not_true(self):
        one, other = Tree.line((2, 2, 3, 3)), Tree.line((2, 3, 2, 3))
        told = [sorted(zip(tree.numbers, tree.degrees)) for tree in (one, other)]
        self.assertEqual(told[0], told[1])
        self.assertIs(are_alike(one, other), False)
        self.assertEqual(tree_code(STAR), code_by_walks(STAR))
        self.assertEqual(len([pair for pair in tree_code(STAR) if pair[0] == 1]), 3)


class Likenesses(unittest.TestCase):
    def test_all_likenesses_of_small_trees(self):
        trees = [tree for size in (1, 2, 3) for tree in small_trees(size, (1, 2))] + list(small_trees(4, (1,)))
        for one, other in itertools.product(trees, repeat=2):
            check_same(self, list(likenesses(one, other)), likenesses_by_trying(one, other))

    def test_all_likenesses_of_middle_trees(self):
        for tree in random_trees(14, 40, (5, 6, 7), 1, 2):
            other = renamed(tree, tuple(reversed(range(tree.size))))
            check_same(self, list(likenesses(tree, other)), likenesses_by_trying(tree, other))
            check_same(self, list(likenesses(tree, tree)), likenesses_by_trying(tree, tree))

    def test_they_are_ascending_and_unlike(self):
        star = Tree.star(2, ((2,),) * 7)
        found = list(likenesses(star, star))
        self.assertEqual(len(found), math.factorial(7))
        self.assertTrue(all(one < other for one, other in zip(found, found[1:])))

    def test_the_first_ones_come_at_once(self):
        for tree in (Tree.star(0, ((1,),) * 11), made_star(7, (99,) * 39)):
            found = likenesses(tree, tree)
            check_same(self, next(found), tuple(range(tree.size)))
            size = tree.size
            check_same(self, next(found), tuple(range(size - 2)) + (size - 1, size - 2))
        check_same(self, list(likenesses(FORTY, FORTY)), [tuple(range(40)), tuple(reversed(range(40)))])
        check_same(self, list(likenesses(FORTY, made_line((99,) * 39))), [])
        check_same(self, list(likenesses(made_star(7, (99,) * 39), made_star(7, (99,) * 38 + (98,)))), [])

    def test_products_stay(self):
        for tree in random_trees(15, 20, (3, 5, 6), 1, 2):
            other = renamed(tree, tuple(reversed(range(tree.size))))
            one_row, other_row = tuple(range(tree.size)), tuple(place * place - 3 for place in range(tree.size))
            for order in likenesses(tree, other):
                moved = [[row[order.index(place)] for place in range(tree.size)] for row in (one_row, other_row)]
                self.assertEqual(product_by_ties(tree, one_row, other_row), product_by_ties(other, *moved))

    def test_errors_come_with_the_first_one(self):
        for value in (None, (2,), "tree", True, [LINE]):
            for values in ((value, LINE), (LINE, value), (value, value)):
                found = likenesses(*values)
                check_error(self, InvalidTree, NO_VALUE, next, found)
        self.assertIs(iter(likenesses(LINE, LINE)).__next__() == (0, 1, 2), True)

    def test_judged_likenesses(self):
        trees = [LINE, Tree.line((2, 2, 3)), Tree.line((2, 2)), Tree((2,), ()), Tree((3, 2, 2), ((0, 1), (0, 2))),
                 Tree((2, 3, 2), ((0, 2), (1, 2)))]
        for one, other in itertools.product(trees, repeat=2):
            right = likenesses_by_trying(one, other)
            for size in range(5):
                for value in itertools.product(range(4), repeat=size):
                    self.assertIs(is_likeness(one, other, value), value in right)
        for tree in random_trees(16, 15, (5, 6), 1, 2):
            right = likenesses_by_trying(tree, tree)
            for value in itertools.permutations(range(tree.size)):
                self.assertIs(is_likeness(tree, tree, value), value in right)

    def test_odd_values_are_judged(self):
        for value in odd_values() + [(False, True, 2), (0, True, 2), [0, 1, 2], (0, 1, 2, 3), (0, 1), (2, 1), "012", (0, 1, BIG),
                                     (0, 1, TOO_BIG), (0, 1, -1), (0, 0, 0), (0, 1, (2, 1)), {0: 0, 1: 1, 2: 2}]:
            with self.subTest(repr(value)):
                self.assertIs(is_likeness(LINE, LINE, value), False)
                self.assertIs(is_likeness(LINE, STAR, value), False)
        self.assertIs(is_likeness(Tree((2,), ()), Tree((2,), ()), (0,)), True)
        self.assertIs(is_likeness(Tree((2,), ()), Tree((2,), ()), (False,)), False)
        self.assertIs(is_likeness(FORTY, FORTY, tuple(reversed(range(40)))), True)
        self.assertIs(is_likeness(FORTY, FORTY, tuple(range(1, 40)) + (0,)), False)

    def test_judging_checks_both_trees(self):
        for value in odd_values():
            if not isinstance(value, Tree):
                check_error(self, InvalidTree, NO_VALUE, is_likeness, value, LINE, (0, 1, 2))
                check_error(self, InvalidTree, NO_VALUE, is_likeness, LINE, value, (0, 1, 2))
                check_error(self, InvalidTree, NO_VALUE, is_likeness, value, None, value)


class Renamed(unittest.TestCase):
    def test_places_have_other_names(self):
        check_same(self, renamed(LINE, (1, 0, 2)), Tree((3, 2, 2), ((0, 1), (0, 2))))
        check_same(self, renamed(STAR, (0, 1, 2, 3, 4)), STAR)
        check_same(self, renamed(STAR, (4, 3, 2, 1, 0)), Tree((4, 2, 3, 2, 2), ((0, 1), (1, 4), (2, 4), (3, 4))))
        check_same(self, renamed(Tree((7,), ()), (0,)), Tree((7,), ()))
        check_same(self, renamed(made_line(range(40)), tuple(reversed(range(40)))), made_line(tuple(reversed(range(40)))))

    def test_the_order_is_a_likeness_to_the_renamed_tree(self):
        for tree in random_trees(17, 30, range(1, 7), 0, 3):
            for order in itertools.islice(itertools.permutations(range(tree.size)), 40):
                other = renamed(tree, order)
                self.assertIn(order, likenesses_by_trying(tree, other))
                self.assertIs(is_likeness(tree, other, order), True)

    def test_there_are_so_many_different_trees(self):
        for tree in random_trees(18, 25, range(1, 7), 1, 2) + [Tree.star(1, ((1,),) * 5), Tree.line((1,) * 6)]:
            found = {(other.numbers, other.ties) for other in
                     (renamed(tree, order) for order in itertools.permutations(range(tree.size)))}
            same = len(list(likenesses(tree, tree)))
            self.assertEqual(len(found), math.factorial(tree.size) // same)

    def test_orders_that_are_none(self):
        for value in odd_values() + [(0, 1), (0, 1, 1), (0, 1, 2, 3), (1, 2, 3), (0, 1, -1), [0, 1, 2], "012", (False, True, 2),
                                     (0, True, 2), (0, 1, "2"), (0, 1, None), (0, 1, BIG), {0: 0, 1: 1, 2: 2}]:
            with self.subTest(repr(value)):
                check_error(self, InvalidOperation, NO_VALUE, renamed, LINE, value)

    def test_the_tree_is_checked_first(self):
        for value in odd_values():
            if not isinstance(value, Tree):
                check_error(self, InvalidTree, NO_VALUE, renamed, value, (0, 1, 2))
                check_error(self, InvalidTree, NO_VALUE, renamed, value, None)


if __name__ == "__main__":
    unittest.main()
