"""Stage 18: [18.1] to [18.7], with [0.4] to [0.7], for tametrees.number.number."""

import random
import unittest
from fractions import Fraction

from tametrees.errors import InvalidClass, InvalidTree, Refused, TooMany
from tametrees.low.boxes import class_count
from tametrees.low.pieces import least_level
from tametrees.number.number import class_share, class_shares, number_by_classes, number_by_table
from tametrees.odd.heights import height
from tametrees.rows.tame import is_tame
from tametrees.trees.chains import chain_fraction, saw_sum
from tametrees.trees.definite import determinant_of
from tametrees.trees.duals import undone_entry
from tametrees.trees.groups import classes_of
from tametrees.trees.kin import are_kin, takeable, taken_down
from tametrees.trees.trees import Tree, made_tree
from tests.helpers import (
    LONG, NO_VALUE, check_error, check_same, definite_trees, k_by_elimination, made_line, made_star, odd_values, pair, presses_of_boxed_row,
    product_by_ties, put_up_often, row_by_presses, wild_trees, worth_by_k,
)

ONE, TWO, THREE, LINE = Tree((1,), ()), Tree((2,), ()), Tree((3,), ()), Tree.line((2, 2))
EIGHT, SEVEN = Tree.star(2, ((2,), (2, 2), (2, 2, 2, 2))), Tree.star(1, ((2,), (3,), (7,)))
BARRED, OVER = Tree.line((1, 1)), Tree.line((6, 2, 37))
# The sure box of the class 0 has more than 20,000 cells.
STEEP = made_star(1, (2, 3, 7, 43))


def sample(seed, count, most=40, sizes=range(1, 8)):
    return definite_trees(seed, count, sizes, 1, 4, most) + [ONE, TWO, THREE, LINE, EIGHT, SEVEN] + [tree for tree in wild_trees() if determinant_of(tree) <= 60]


def shares_or_none(tree):
    try:
        return class_shares(tree)
    except TooMany:
        return None


def share_by_words(tree, class_):
    boxed = row_by_presses(tree, presses_of_boxed_row(tree, class_))
    row = [x + 2 * y for x, y in zip(k_by_elimination(tree), boxed)]
    return class_count(tree, class_) + (product_by_ties(tree, row, row) + tree.size) / Fraction(8)


def number_by_words(tree):
    """The second sum of [18.5]."""
    total = Fraction(3 * tree.size - sum(tree.numbers))
    for place in range(tree.size):
        total -= (2 - tree.degrees[place]) * Fraction(*undone_entry(tree, place, place))
    return total


class Shares(unittest.TestCase):
    def test_18_1_shares(self):
        for tree in sample(801, 40):
            shares = shares_or_none(tree)
            if shares is None:
                continue
            self.assertIs(type(shares), dict)
            self.assertEqual(list(shares), list(classes_of(tree)))
            k = k_by_elimination(tree)
            for class_ in classes_of(tree)[:6]:
                check_same(self, shares[class_], pair(share_by_words(tree, class_)))
                check_same(self, class_share(tree, class_), shares[class_])
                boxed = row_by_presses(tree, presses_of_boxed_row(tree, class_))
                other = class_count(tree, class_) - worth_by_k(tree, boxed) + (product_by_ties(tree, k, k) + tree.size) / Fraction(8)
                self.assertEqual(Fraction(*shares[class_]), other)

    def test_18_2_another_row_of_the_class(self):
        source = random.Random(802)
        for tree in sample(803, 15, 20, range(1, 5)):
            shares = shares_or_none(tree)
            for class_ in classes_of(tree)[:3] if shares else ():
                boxed = row_by_presses(tree, presses_of_boxed_row(tree, class_))
                moved = [entry + source.randint(-3, 3) for entry in boxed]
                count = class_count(tree, class_) + worth_by_k(tree, moved) - worth_by_k(tree, boxed)
                row = [x + 2 * y for x, y in zip(k_by_elimination(tree), moved)]
                self.assertEqual(Fraction(*shares[class_]), count + (product_by_ties(tree, row, row) + tree.size) / Fraction(8))

    def test_18_3_what_stays_where_places_are_put_up(self):
        source = random.Random(804)
        compared = 0
        for tree in sample(805, 25, 20, range(1, 6)):
            higher = put_up_often(source, tree, 2)
            shares, more = shares_or_none(tree), shares_or_none(higher)
            if shares is not None and more is not None:
                self.assertEqual(sorted(shares.values()), sorted(more.values()))
                for place in takeable(higher):
                    less = shares_or_none(taken_down(higher, place))
                    self.assertTrue(less is None or sorted(less.values()) == sorted(more.values()))
                compared += 1
                if determinant_of(tree) == 1:
                    self.assertEqual([bottom for _, bottom in shares.values()], [1])
        self.assertGreater(compared, 15)

    def test_18_4_heights(self):
        compared = 0
        for tree in sample(806, 40, 30, range(1, 6)):
            shares = shares_or_none(tree)
            for class_ in shares or ():
                try:
                    here, low = Fraction(*height(tree, class_)), least_level(tree, class_)
                except TooMany:
                    continue
                self.assertEqual(Fraction(*shares[class_]) - here / 2, class_count(tree, class_) + low)
                if is_tame(tree):
                    self.assertEqual(Fraction(*shares[class_]), here / 2)
                compared += 1
        self.assertGreater(compared, 150)


class Numbers(unittest.TestCase):
    def test_18_5_one_number_on_two_roads(self):
        compared = 0
        for tree in sample(807, 80):
            check_same(self, number_by_table(tree), pair(number_by_words(tree)))
            shares = shares_or_none(tree)
            if shares is None:
                check_error(self, TooMany, 20000, number_by_classes, tree)
                continue
            total = 24 * sum(Fraction(*share) for share in shares.values()) / determinant_of(tree)
            check_same(self, number_by_classes(tree), pair(Fraction(total)))
            check_same(self, number_by_classes(tree), number_by_table(tree))
            compared += 1
        self.assertGreater(compared, 70)

    def test_18_6_what_the_number_keeps(self):
        source = random.Random(808)
        for tree in definite_trees(809, 60, range(1, 9), 1, 5) + wild_trees():
            higher = put_up_often(source, tree, source.randint(1, 20))
            self.assertEqual(number_by_table(higher), number_by_table(tree))
            if determinant_of(tree) == 1:
                top, bottom = number_by_table(tree)
                self.assertEqual((top % 24, bottom), (0, 1))

    def test_18_6_lines(self):
        source = random.Random(810)
        for _ in range(60):
            numbers = tuple(source.randint(2, 5) for _ in range(source.randint(1, 7)))
            n, q = chain_fraction(numbers)
            if n <= 10000:
                found = Fraction(*number_by_table(made_line(numbers)))
                self.assertEqual(found, -12 * Fraction(*saw_sum(q, n)))
                self.assertEqual((n * found).denominator, 1)

    def test_trees_of_forty_places_and_great_determinants(self):
        for tree in (made_line((2,) * 40), made_star(40, (1,) * 39), made_line((LONG,) * 40), put_up_often(random.Random(811), SEVEN, 36), OVER):
            check_same(self, number_by_table(tree), pair(number_by_words(tree)))
        check_same(self, number_by_table(made_tree((1,), ())), (0, 1))
        line = made_line((2,) * 40)
        check_same(self, number_by_classes(line), number_by_table(line))
        self.assertEqual(len(class_shares(line)), 41)

    def test_determinants_of_1_of_400_and_just_above(self):
        full = made_tree((400,), ())
        self.assertEqual(len(class_shares(full)), 400)
        check_same(self, number_by_classes(full), number_by_table(full))
        for call in (class_shares, number_by_classes):
            check_error(self, TooMany, 400, call, made_tree((401,), ()))
            check_error(self, TooMany, 400, call, OVER)
        check_error(self, TooMany, 400, class_share, OVER, None)
        check_same(self, class_shares(ONE), {(0,): (0, 1)})
        long_line = made_line((2,) * 4 + (81,))
        self.assertEqual(determinant_of(long_line), 401)
        check_error(self, TooMany, 400, number_by_classes, long_line)
        line = Tree.line((20, 20))
        self.assertEqual(determinant_of(line), 399)
        check_same(self, number_by_classes(line), number_by_table(line))

    def test_the_returned_dict_is_not_shared(self):
        found = class_shares(LINE)
        found[(0, 0)] = None
        del found[(1, 2)]
        self.assertEqual(list(class_shares(LINE)), list(classes_of(LINE)))
        self.assertIsNotNone(class_shares(LINE)[(0, 0)])


class Errors(unittest.TestCase):
    def test_no_trees(self):
        for value in odd_values():
            if not isinstance(value, Tree):
                for call in (class_shares, number_by_classes, number_by_table):
                    check_error(self, InvalidTree, NO_VALUE, call, value)
                check_error(self, InvalidTree, NO_VALUE, class_share, value, value)

    def test_trees_that_are_not_definite(self):
        for tree in (BARRED, Tree((0,), ()), made_star(39, (1,) * 39)):
            for call in (class_shares, number_by_classes, number_by_table):
                check_error(self, Refused, ("bar",), call, tree)
            check_error(self, Refused, ("bar",), class_share, tree, None)

    def test_classes_of_wrong_form(self):
        for class_ in (None, (3,), [0], (False,), (0, 0), (-1,), (LONG,), "0", ((0, 1),)):
            check_error(self, InvalidClass, NO_VALUE, class_share, THREE, class_)
        check_error(self, InvalidClass, NO_VALUE, class_share, STEEP, (1, 0, 0, 0, 0))

    def test_too_many_cells(self):
        for call in (class_shares, number_by_classes):
            check_error(self, TooMany, 20000, call, STEEP)
        check_error(self, TooMany, 20000, class_share, STEEP, (0,) * 5)
        check_same(self, number_by_table(STEEP), pair(number_by_words(STEEP)))


class NotTrue(unittest.TestCase):
    def test_18_7(self):
        self.assertEqual((number_by_table(EIGHT), class_count(EIGHT, (0,) * 8)), ((24, 1), 0))
        self.assertEqual((number_by_table(SEVEN), determinant_of(SEVEN), determinant_of(EIGHT)), ((24, 1), 1, 1))
        self.assertIs(are_kin(EIGHT, SEVEN), False)
        self.assertEqual((is_tame(THREE), number_by_table(THREE)), (True, (-2, 3)))
        self.assertEqual((number_by_table(TWO), number_by_table(LINE)), ((0, 1), (2, 3)))


if __name__ == "__main__":
    unittest.main()
