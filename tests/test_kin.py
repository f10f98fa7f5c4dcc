"""Stage 6: [6.1] to [6.8], with [0.2] to [0.7] and [0.20], for tametrees.trees.kin."""

import itertools
import random
import unittest

from tametrees.errors import InvalidNumber, InvalidOperation, InvalidTree, Refused, TooMany
from tametrees.trees.definite import determinant_of, is_definite
from tametrees.trees.groups import class_product, class_sum, classes_of
from tametrees.trees.kin import (
    MAX_PLACES, are_kin, is_kin_paper, kin_paper, least_tree, put_at_place, put_at_tie, takeable, taken_down,
)
from tametrees.trees.trees import MAX_PLACES as MOST_PASSED
from tametrees.trees.trees import Tree, are_alike, likenesses, made_tree, renamed
from tests.helpers import (
    BIG, LONG, NO_VALUE, check_error, check_same, definite_trees, made_line, made_star, neighbours_by_ties, odd_values,
    press_by_ties, product_by_ties, put_up_often, random_trees, small_trees, wild_trees,
)

ONE, LONG_LINE, SEVEN = Tree((1,), ()), Tree.line((2, 1, 3)), Tree((1, 2, 3, 7), ((0, 1), (0, 2), (0, 3)))
BARRED = Tree.line((1, 1))
PLACES = (-1, 3, 40, None, True, False, "0", (0,), [0], 10 ** 59, LONG, -LONG, ONE)


def can_go(tree, place):
    beside = neighbours_by_ties(tree, place)
    return tree.size >= 2 and tree[place] == 1 and len(beside) <= 2 and all(tree[other] >= 1 for other in beside)


def down_by_words(tree, place):
    """The numbers and ties of [6.1], with names that stay; then all are numbered anew."""
    beside = neighbours_by_ties(tree, place)
    numbers = {other: tree[other] - (other in beside) for other in range(tree.size) if other != place}
    ties = {frozenset(tie) for tie in tree.ties if place not in tie}
    if len(beside) == 2:
        ties.add(frozenset(beside))
    names = sorted(numbers)
    return Tree_by_sets([numbers[name] for name in names], {frozenset(names.index(end) for end in tie) for tie in ties})


def Tree_by_sets(numbers, ties):
    return made_tree(tuple(numbers), tuple(sorted(tuple(sorted(tie)) for tie in ties)))


def rows_down(tree):
    """All rows down of a tree, with what they leave."""
    places = [place for place in range(tree.size) if can_go(tree, place)]
    if not places:
        return [((), tree)]
    return [((place,) + row, left) for place in places for row, left in rows_down(down_by_words(tree, place))]


def many_trees():
    trees = [tree for size in (1, 2, 3) for tree in small_trees(size, (0, 1, 2))] + random_trees(61, 80, range(3, 13), 0, 3)
    return trees + [made_line((1, 2) * 20), made_star(LONG, (1,) * 39), made_line((LONG, 1, LONG)), SEVEN]


class Taking(unittest.TestCase):
    def test_the_bounds(self):
        check_same(self, (MAX_PLACES, MOST_PASSED), (40, 12))

    def test_takeable(self):
        for tree in many_trees():
            check_same(self, takeable(tree), tuple(place for place in range(tree.size) if can_go(tree, place)))

    def test_edges_of_takeable(self):
        for tree, places in (
            (ONE, ()), (BARRED, (0, 1)), (Tree.line((1, 0)), ()), (Tree.line((0, 1)), ()), (Tree.line((1, 1, 1)), (0, 1, 2)),
            (Tree.line((0, 1, 2)), ()), (Tree.line((2, 1, 0)), ()), (Tree.line((2, 1, 2)), (1,)), (SEVEN, ()), (Tree((0,), ()), ()),
            (Tree.star(1, ((1,), (1,), (1,))), (1, 2, 3)), (Tree.star(0, ((1,), (1,))), ()), (made_star(39, (1,) * 39), tuple(range(1, 40))),
        ):
            check_same(self, takeable(tree), places)

    def test_taken_down(self):
        for tree in many_trees():
            for place in range(tree.size):
                if can_go(tree, place):
                    self.assertEqual(taken_down(tree, place), down_by_words(tree, place))
                else:
                    check_error(self, InvalidOperation, NO_VALUE, taken_down, tree, place)

    def test_numbers_can_fall_to_0(self):
        self.assertEqual(taken_down(BARRED, 1), Tree((0,), ()))
        self.assertEqual(taken_down(Tree.line((1, 1, 1)), 1), Tree.line((0, 0)))
        self.assertEqual(taken_down(Tree.line((1, 1, 5)), 0), Tree.line((0, 5)))

    def test_wrong_values(self):
        for value in odd_values():
            if not isinstance(value, Tree):
                check_error(self, InvalidTree, NO_VALUE, takeable, value)
                check_error(self, InvalidTree, NO_VALUE, taken_down, value, 0)
                check_error(self, InvalidTree, NO_VALUE, taken_down, value, None)
        for value in PLACES:
            check_error(self, InvalidNumber, value, taken_down, LONG_LINE, value)
            check_error(self, InvalidNumber, value, taken_down, Tree.line((0, 0, 0)), value)


class PuttingUp(unittest.TestCase):
    def test_put_at_a_place(self):
        for tree in many_trees():
            for place in range(tree.size if tree.size < 40 else 0):
                found = put_at_place(tree, place)
                numbers = [number + (at == place) for at, number in enumerate(tree)] + [1]
                self.assertEqual(found, Tree_by_sets(numbers, list(tree.ties) + [(place, tree.size)]))
                self.assertEqual(taken_down(found, tree.size), tree)

    def test_put_within_a_tie(self):
        for tree in many_trees():
            for one, other in tree.ties if tree.size < 40 else ():
                found = put_at_tie(tree, one, other)
                self.assertEqual(put_at_tie(tree, other, one), found)
                numbers = [number + (at in (one, other)) for at, number in enumerate(tree)] + [1]
                ties = [tie for tie in tree.ties if tie != (one, other)] + [(one, tree.size), (other, tree.size)]
                self.assertEqual(found, Tree_by_sets(numbers, ties))
                self.assertEqual(taken_down(found, tree.size), tree)

    def test_places_that_are_not_tied(self):
        for tree in many_trees():
            for one, other in itertools.product(range(tree.size), repeat=2):
                if (min(one, other), max(one, other)) not in tree.ties:
                    check_error(self, InvalidOperation, NO_VALUE, put_at_tie, tree, one, other)

    def test_forty_places(self):
        tree = ONE
        for size in range(2, 41):
            tree = put_at_tie(tree, *tree.ties[-1]) if size % 3 == 0 else put_at_place(tree, size // 4)
            self.assertEqual((tree.size, tree[tree.size - 1]), (size, 1))
        for full in (tree, made_line((2,) * 40), made_star(LONG, (0,) * 39)):
            for place in (0, 20, 39):
                check_error(self, TooMany, 40, put_at_place, full, place)
            check_error(self, TooMany, 40, put_at_tie, full, *full.ties[7])
            check_error(self, InvalidOperation, NO_VALUE, put_at_tie, full, 5, 5)
            check_error(self, InvalidNumber, 40, put_at_place, full, 40)
            check_error(self, InvalidNumber, 40, put_at_tie, full, 0, 40)
        self.assertEqual(put_at_place(made_line((2,) * 39), 38), made_line((2,) * 38 + (3, 1)))
        self.assertEqual(put_at_tie(made_star(9, (2,) * 38), 0, 38).size, 40)

    def test_wrong_values_in_their_sequence(self):
        for value in odd_values():
            if not isinstance(value, Tree):
                check_error(self, InvalidTree, NO_VALUE, put_at_place, value, None)
                check_error(self, InvalidTree, NO_VALUE, put_at_tie, value, None, None)
        for value in PLACES:
            check_error(self, InvalidNumber, value, put_at_place, LONG_LINE, value)
            check_error(self, InvalidNumber, value, put_at_tie, LONG_LINE, value, 0)
            check_error(self, InvalidNumber, value, put_at_tie, LONG_LINE, 0, value)
            check_error(self, InvalidNumber, value, put_at_tie, LONG_LINE, value, -7)
            check_error(self, InvalidNumber, -7, put_at_tie, LONG_LINE, -7, value)
        check_error(self, InvalidOperation, NO_VALUE, put_at_tie, LONG_LINE, 0, 2)

    def test_trees_that_are_not_definite_can_be_put_up(self):
        self.assertEqual(put_at_place(Tree((0,), ()), 0), BARRED)
        self.assertEqual(put_at_tie(Tree.line((0, 0)), 0, 1), Tree((1, 1, 1), ((0, 2), (1, 2))))


def put_up_with_row(tree, row, beside):
    found = put_at_place(tree, *beside) if len(beside) == 1 else put_at_tie(tree, *beside)
    return found, tuple(row) + (sum(row[place] for place in beside),)


class WhatStays(unittest.TestCase):
    def test_6_3_products_of_rows_stay(self):
        source = random.Random(62)
        for tree in random_trees(63, 30, range(1, 9), 0, 4):
            row, other = ([source.randint(-5, 5) for _ in tree] for _ in range(2))
            for beside in [(place,) for place in range(tree.size)] + list(tree.ties):
                higher, raised = put_up_with_row(tree, row, beside)
                _, raised_other = put_up_with_row(tree, other, beside)
                self.assertEqual(product_by_ties(higher, raised, raised_other), product_by_ties(tree, row, other))
                self.assertEqual(press_by_ties(higher, raised)[-1], 0)

    def test_6_4_definite_determinant_and_classes_stay(self):
        source = random.Random(64)
        for tree in random_trees(65, 60, range(1, 9), 1, 4) + wild_trees():
            higher = put_up_often(source, tree, 3)
            self.assertIs(is_definite(higher), is_definite(tree))
            self.assertEqual(determinant_of(higher), determinant_of(tree))
            if is_definite(tree) and determinant_of(tree) <= 60:
                found = classes_of(higher)
                self.assertEqual(tuple(sorted(class_[:tree.size] for class_ in found)), classes_of(tree))
                for one, other in itertools.product(found[:8], repeat=2):
                    cut = (one[:tree.size], other[:tree.size])
                    self.assertEqual(class_sum(higher, one, other)[:tree.size], class_sum(tree, *cut))
                    self.assertEqual(class_product(higher, one, other), class_product(tree, *cut))


def definite_sample():
    source = random.Random(66)
    trees = definite_trees(67, 40, range(1, 6), 1, 4) + wild_trees()[:8]
    return [put_up_often(source, tree, source.randint(0, 3)) for tree in trees] + [ONE, LONG_LINE, SEVEN, Tree.line((2, 2))]


class Least(unittest.TestCase):
    def test_6_5_all_sequences_leave_trees_that_are_alike(self):
        for tree in definite_sample():
            least = least_tree(tree)
            check_same(self, takeable(least), ())
            ways = rows_down(tree)
            self.assertTrue(all(are_alike(left, least) for _, left in ways))
            first = []
            left = tree
            while takeable(left):
                first.append(takeable(left)[0])
                left = taken_down(left, takeable(left)[0])
            self.assertEqual(least, left)
            self.assertIn((tuple(first), least), ways)

    def test_large_trees_come_down(self):
        source = random.Random(68)
        for _ in range(20):
            self.assertEqual(least_tree(put_up_often(source, ONE, 39)), ONE)
            self.assertTrue(are_alike(least_tree(put_up_often(source, SEVEN, 36)), SEVEN))
        for tree in (made_line((2,) * 40), made_star(99, (2,) * 39), SEVEN):
            self.assertEqual(least_tree(tree), tree)
        self.assertEqual(least_tree(made_line((1,) + (2,) * 39)), ONE)

    def test_trees_that_are_not_definite(self):
        for tree in (BARRED, Tree((0,), ()), Tree((2,) * 5, ((0, 1), (0, 2), (0, 3), (0, 4))), made_star(39, (1,) * 39), Tree.line((1, 1, 1, 60))):
            check_error(self, Refused, ("bar",), least_tree, tree)
            for call, more in ((are_kin, ()), (kin_paper, ()), (is_kin_paper, (None,))):
                check_error(self, Refused, ("bar",), call, tree, ONE, *more)
                check_error(self, Refused, ("bar",), call, ONE, tree, *more)
                check_error(self, Refused, ("bar",), call, tree, None, *more)
                check_error(self, InvalidTree, NO_VALUE, call, None, tree, *more)
                check_error(self, InvalidTree, NO_VALUE, call, ONE, None, *more)

    def test_no_trees(self):
        for value in odd_values():
            if not isinstance(value, Tree):
                check_error(self, InvalidTree, NO_VALUE, least_tree, value)
                for call, more in ((are_kin, ()), (kin_paper, ()), (is_kin_paper, (("kin", (), (), (0,)),))):
                    check_error(self, InvalidTree, NO_VALUE, call, value, ONE, *more)
                    check_error(self, InvalidTree, NO_VALUE, call, ONE, value, *more)
                    check_error(self, InvalidTree, NO_VALUE, call, value, BARRED, *more)


class Kin(unittest.TestCase):
    def test_6_6_what_is_put_up_is_kin(self):
        source = random.Random(69)
        for tree in definite_trees(70, 25, range(1, 7), 1, 4) + wild_trees()[:10]:
            one, other = put_up_often(source, tree, 4), put_up_often(source, tree, 7)
            order = list(range(other.size))
            source.shuffle(order)
            other = renamed(other, tuple(order))
            self.assertIs(are_kin(one, other), True)
            self.assertIs(are_kin(one, tree), True)
            self.check_paper(one, other, "kin")

    def check_paper(self, one, other, word):
        paper = kin_paper(one, other)
        self.assertEqual((type(paper), paper[0], len(paper)), (tuple, word, 4 if word == "kin" else 3))
        self.assertIs(is_kin_paper(one, other, paper), True)
        self.assertIs(are_kin(one, other), word == "kin")

    def test_trees_are_kin_just_if_their_least_trees_are_alike(self):
        trees = definite_sample()
        for one, other in itertools.product(trees[::2], repeat=2):
            alike = are_alike(least_tree(one), least_tree(other))
            self.check_paper(one, other, "kin" if alike else "apart")

    def test_large_trees(self):
        source = random.Random(71)
        star = made_star(99, (2,) * 39)
        self.check_paper(star, renamed(star, tuple(range(39, -1, -1))), "kin")
        self.check_paper(put_up_often(source, ONE, 39), put_up_often(source, ONE, 39), "kin")
        self.check_paper(put_up_often(source, SEVEN, 36), put_up_often(source, ONE, 39), "apart")
        self.check_paper(star, made_line((2,) * 40), "apart")

    def test_6_7_every_kin_paper_is_accepted_and_nothing_near_it(self):
        trees = [tree for tree in definite_sample() if tree.size <= 5][:14] + [Tree.line((2, 1, 4, 2)), Tree.line((1, 4, 1, 2))]
        for one, other in itertools.product(trees, repeat=2):
            for (first, left), (second, more) in itertools.product(rows_down(one)[:4], rows_down(other)[:4]):
                orders = list(likenesses(left, more))
                self.assertIs(is_kin_paper(one, other, ("apart", first, second)), not orders)
                for order in itertools.permutations(range(more.size)):
                    self.assertIs(is_kin_paper(one, other, ("kin", first, second, order)), order in orders)

    def test_rows_down_near_right_ones(self):
        tree = Tree.line((2, 1, 3))
        right = [row for row, _ in rows_down(tree)]
        for length in range(5):
            for row in itertools.product(range(-1, 3), repeat=length):
                self.assertIs(is_kin_paper(tree, ONE, ("kin", row, (), (0,))), row in right)
                self.assertIs(is_kin_paper(ONE, tree, ("kin", (), row, (0,))), row in right)
                self.assertIs(is_kin_paper(SEVEN, tree, ("apart", (), row)), row in right)
        for row in ([1, 0], (1, False), (True, 0), (1, 0, 0), (1, 0, None), (1, LONG), (BIG, 0), "10", {1: 0}, None, 1, (1, (0,)), ((1, 0),), (1, "0"), (1, ONE)):
            self.assertIs(is_kin_paper(tree, ONE, ("kin", row, (), (0,))), False)
            self.assertIs(is_kin_paper(tree, SEVEN, ("apart", row, ())), False)

    def test_papers_near_right_ones(self):
        row = rows_down(LONG_LINE)[0][0]
        for value in (("kin", row, (), (0,)), ("apart", row, ()), ("apart", row, (), (0,)), ("kin", row, ()), ("kin", row, (), (0,), ()),
                      ["kin", row, (), (0,)], ("Kin", row, (), (0,)), ("kin", row, (), [0]), ("kin", row, (), (False,)), ("kin", row, (), (1,)),
                      ("kin", row, (), ()), ("kin", (), row, (0,)), ("kin", row, (), 0), ("kin", row, (), None), ("kin", row, None, (0,)), (),
                      ("kin",), "kin", None, {"kin": row}, ("kin", row, (), (LONG,)), (True, row, (), (0,)), (ONE, row, (), (0,))):
            with self.subTest(repr(value)):
                self.assertIs(is_kin_paper(LONG_LINE, ONE, value), value == ("kin", row, (), (0,)) and type(value[3][0]) is int)

    def test_odd_values_are_judged(self):
        for value in odd_values():
            for one, other in ((LONG_LINE, ONE), (SEVEN, ONE), (ONE, ONE)):
                self.assertIs(is_kin_paper(one, other, value), False)
                for paper in (("kin", value, (), (0,)), ("kin", (), value, (0,)), ("kin", (), (), value), ("apart", value, ()), ("apart", (), value),
                              (value, (), ()), (value, (), (), (0,)), (value,) * 3, (value,) * 4):
                    self.assertIs(type(is_kin_paper(one, other, paper)), bool)


class NotTrue(unittest.TestCase):
    def test_6_8(self):
        self.assertEqual((SEVEN[0], least_tree(SEVEN)), (1, SEVEN))
        self.assertEqual((determinant_of(SEVEN), determinant_of(ONE), len(classes_of(SEVEN))), (1, 1, 1))
        self.assertIs(are_kin(SEVEN, ONE), False)


if __name__ == "__main__":
    unittest.main()
