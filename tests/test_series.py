"""Stage 17: [17.1] to [17.7], with [0.4] to [0.7], for tametrees.series.series."""

import itertools
import math
import random
import unittest
from fractions import Fraction

from tametrees.errors import InvalidClass, InvalidOperation, InvalidRow, InvalidTree, Refused, TooMany
from tametrees.low.boxes import class_count, sure_box
from tametrees.low.pieces import worth_in
from tametrees.rows.steps import least_cycle
from tametrees.rows.tame import worth
from tametrees.series.series import MOST_TERMS, coefficient, far_row, is_far, left_behind
from tametrees.trees.definite import determinant_of
from tametrees.trees.duals import dual_row
from tametrees.trees.groups import boxed_row, class_of, classes_of
from tametrees.trees.trees import Tree, made_tree
from tests.helpers import (
    BIG, LONG, NO_VALUE, TOO_BIG, check_error, check_same, definite_trees, far_by_steps, fractions_of, is_at_or_above, made_line, made_star,
    odd_values, pair, press_by_ties, presses_of_boxed_row, some_classes, sum_of_rows, wild_trees,
)

ONE, TWO, THREE, LINE = Tree((1,), ()), Tree((2,), ()), Tree((3,), ()), Tree.line((2, 2))
FOUR, SEVEN = Tree.star(2, ((2,), (2,), (2,))), Tree.star(1, ((2,), (3,), (7,)))
FIVE = Tree.star(3, ((2,), (3,), (2,), (4,), (2,)))
BARRED, OVER, ZERO = Tree.line((1, 1)), Tree.line((6, 2, 37)), (0, 0, 0, 0)


def power_of_place(degree, most):
    """The first coefficients of (1 - x) ** (degree - 2), by multiplying."""
    found = [1] + [0] * most
    for _ in range(max(0, degree - 2)):
        found = [found[at] - (found[at - 1] if at else 0) for at in range(most + 1)]
    for _ in range(max(0, 2 - degree)):
        found = list(itertools.accumulate(found))
    return found


def coefficient_by_words(tree, exponents):
    if min(exponents) < 0:
        return 0
    return math.prod(power_of_place(degree, a)[a] for degree, a in zip(tree.degrees, exponents))


def terms_behind(tree, class_, row):
    """All pairs of exponents and dual rows with a coefficient other than 0 that are not at or above r + row, by trying."""
    ends = [x + y for x, y in zip(fractions_of(boxed_row(tree, class_)), row)]
    units = [fractions_of(dual_row(tree, place)) for place in range(tree.size)]
    spans = []
    for place, degree in enumerate(tree.degrees):
        # With more at this place alone the row is at or above.
        most = max(0, max(math.ceil(end / entry) for end, entry in zip(ends, units[place])))
        spans.append(range(most + 1) if degree < 2 else range(min(most, degree - 2) + 1))
    found = []
    for exponents in itertools.product(*spans):
        here = [sum(a * unit[at] for a, unit in zip(exponents, units)) for at in range(tree.size)]
        if coefficient_by_words(tree, exponents) and not is_at_or_above(here, ends):
            found.append((exponents, tuple(pair(x) for x in here)))
    return found


def left_by_words(tree, class_, row):
    return sum(coefficient_by_words(tree, exponents) for exponents, here in terms_behind(tree, class_, row) if class_of(tree, here) == class_)


def is_far_by_words(tree, class_, row):
    presses = sum_of_rows(presses_of_boxed_row(tree, class_), press_by_ties(tree, row))
    return all(press <= 2 - number for press, number in zip(presses, tree))


def sample(seed, count, sizes, most=30, many=2):
    source = random.Random(seed)
    trees = definite_trees(seed, count, sizes, 1, 4, most)
    return [(tree, class_) for tree in trees for class_ in some_classes(source, tree, many, classes_of(tree))]


class Coefficients(unittest.TestCase):
    def test_the_bound(self):
        check_same(self, MOST_TERMS, 20000)

    def test_17_3_coefficients(self):
        source = random.Random(701)
        for tree in definite_trees(702, 60, range(1, 10), 1, 5) + wild_trees() + [ONE, TWO, FOUR, FIVE]:
            for _ in range(12):
                exponents = tuple(source.choice((-1, 0, 0, 0, 1, 1, 2, 3)) if degree != 2 else source.choice((0, 0, 0, 0, 0, 1, -1))
                                  for degree in tree.degrees)
                check_same(self, coefficient(tree, exponents), coefficient_by_words(tree, exponents))
            check_same(self, coefficient(tree, (0,) * tree.size), 1)

    def test_each_degree(self):
        check_same(self, [coefficient(FIVE, (a, 0, 0, 0, 0, 0)) for a in range(-1, 6)], [0, 1, -3, 3, -1, 0, 0])
        check_same(self, [coefficient(FOUR, (a, 3, 0, 1)) for a in range(-1, 4)], [0, 1, -1, 0, 0])
        check_same(self, [coefficient(TWO, (a,)) for a in (-5, -1, 0, 1, 2, 99)], [0, 0, 1, 2, 3, 100])
        check_same(self, [coefficient(LINE, (a, 4)) for a in (-1, 0, 9)], [0, 1, 1])
        check_same(self, [coefficient(Tree.line((2, 2, 2)), (1, a, 1)) for a in (-1, 0, 1, 2)], [0, 1, 0, 0])

    def test_great_exponents(self):
        check_same(self, coefficient(TWO, (BIG,)), BIG + 1)
        check_same(self, coefficient(LINE, (BIG, BIG)), 1)
        check_same(self, coefficient(FIVE, (BIG, 1, 1, 1, 1, 1)), 0)
        check_same(self, coefficient(FIVE, (-BIG, 1, 1, 1, 1, 1)), 0)
        star = made_star(40, (1,) * 39)
        check_same(self, coefficient(star, (18,) + (5,) * 39), math.comb(37, 18))
        check_same(self, coefficient(star, (37,) + (0,) * 39), -1)

    def test_the_tree_need_not_be_classed(self):
        check_same(self, coefficient(OVER, (1, 0, 1)), 1)
        check_same(self, coefficient(made_tree((LONG,), ()), (5,)), 6)

    def test_wrong_exponents(self):
        for value in (None, (), (0,), (0, 0, 0, 0, 0), [0, 0, 0, 0], (0, 0, 0, True), (0, 0, 0, (1, 1)), (0, 0, 0, TOO_BIG), (0, 0, 0, -LONG), "0000", 4, SEVEN):
            check_error(self, InvalidRow, NO_VALUE, coefficient, SEVEN, value)
            check_error(self, InvalidTree, NO_VALUE, coefficient, value if not isinstance(value, Tree) else None, value)
        check_error(self, Refused, ("bar",), coefficient, BARRED, None)
        check_error(self, Refused, ("bar",), coefficient, Tree((0,), ()), (0,))

    def test_17_1_exponents_and_presses(self):
        for tree in definite_trees(703, 20, range(1, 6), 1, 4):
            for place in range(tree.size):
                unit = dual_row(tree, place)
                self.assertTrue(all(top > 0 for top, _ in unit))
                self.assertEqual([-press for press, _ in tree.press(unit)], [int(other == place) for other in range(tree.size)])


class FarRows(unittest.TestCase):
    def test_17_4_far_rows(self):
        source = random.Random(704)
        for tree, class_ in sample(705, 40, range(1, 7)):
            found = far_row(tree, class_)
            self.assertIs(is_far_by_words(tree, class_, found), True)
            check_same(self, is_far(tree, class_, found), True)
            for _ in range(6):
                row = tuple(x + source.randint(-1, 1) for x in found)
                check_same(self, is_far(tree, class_, row), is_far_by_words(tree, class_, row))
            least = far_by_steps(tree, class_)
            check_same(self, is_far(tree, class_, least), True)
            moved = sum_of_rows(found, least_cycle(tree))
            check_same(self, is_far(tree, class_, moved), True)

    def test_rows_beside_far_rows(self):
        check_same(self, [is_far(TWO, (0,), (x,)) for x in (-1, 0, 1, BIG)], [False, True, True, True])
        check_same(self, [is_far(THREE, (1,), (x,)) for x in (-1, 0, 1)], [False, True, True])
        check_same(self, [is_far(ONE, (0,), (x,)) for x in (-2, -1, 0)], [False, True, True])
        check_same(self, [is_far(SEVEN, ZERO, row) for row in ((2, 1, 1, 1), (2, 1, 1, 0), (3, 1, 1, 1), (2, 2, 1, 1))], [True, False, False, False])

    def test_any_value_is_judged(self):
        for value in odd_values():
            for tree in (SEVEN, FOUR, LINE):
                check_same(self, is_far(tree, (0,) * tree.size, value), type(value) is tuple and len(value) == tree.size and all(
                    type(part) is int for part in value) and is_far_by_words(tree, (0,) * tree.size, value))
        check_same(self, is_far(TWO, (0,), (LONG,)), True)
        check_same(self, is_far(TWO, (0,), (10 ** 5000,)), True)
        check_same(self, is_far(TWO, (0,), (-LONG,)), False)
        check_same(self, is_far(TWO, (0,), (True,)), False)
        check_same(self, is_far(TWO, (0,), [1]), False)
        check_same(self, is_far(TWO, (0,), ((1, 1),)), False)
        check_same(self, is_far(TWO, (0,), (1, 1)), False)

    def test_large_trees(self):
        for tree in (made_line((2,) * 40), made_star(40, (1,) * 39)):
            for class_ in classes_of(tree)[:2]:
                check_same(self, is_far(tree, class_, far_row(tree, class_)), True)


class LeftBehind(unittest.TestCase):
    def test_17_5_sums_by_words(self):
        compared = 0
        for tree, class_ in sample(706, 30, range(1, 5), 12) + [(SEVEN, ZERO), (FOUR, ZERO), (FOUR, (0, 0, 2, 2))]:
            row = far_by_steps(tree, class_)
            if max(abs(entry) for entry in row) <= 3:
                check_same(self, left_behind(tree, class_, row), left_by_words(tree, class_, row))
                compared += 1
        self.assertGreater(compared, 40)

    def test_17_6_far_rows_tell_the_count(self):
        compared = 0
        trees = [(tree, (0,) * tree.size) for tree in wild_trees() if determinant_of(tree) <= 400]
        for tree, class_ in sample(708, 60, range(1, 8)) + trees:
            try:
                found = class_count(tree, class_)
                row = far_row(tree, class_)
                check_same(self, left_behind(tree, class_, row), worth_in(tree, class_, row) + found)
                more = sum_of_rows(row, least_cycle(tree))
                check_same(self, left_behind(tree, class_, more), worth_in(tree, class_, more) + found)
                compared += 1
            except TooMany as error:
                self.assertEqual(error.limit, 20000)
        self.assertGreater(compared, 60)

    def test_rows_that_are_not_far(self):
        for tree, class_, row in ((TWO, (1,), (-1,)), (SEVEN, ZERO, ZERO), (SEVEN, ZERO, (6, 3, 2, 1)), (SEVEN, ZERO, (-BIG, 0, 0, 0)), (TWO, (0,), (-BIG,))):
            check_error(self, InvalidOperation, NO_VALUE, left_behind, tree, class_, row)

    def test_nothing_left_behind(self):
        # K of the lone place with 1 is (1,), so that far rows can have entries of at most 0.
        check_same(self, [left_behind(ONE, (0,), (x,)) for x in (-1, 0, 1, 2)], [0, 0, 1, 3])
        check_same(self, left_behind(TWO, (0,), (0,)), 0)
        check_same(self, left_behind(Tree.line((2, 1)), (0, 0), far_row(Tree.line((2, 1)), (0, 0))), left_by_words(Tree.line((2, 1)), (0, 0), far_row(Tree.line((2, 1)), (0, 0))))

    def test_just_20000_terms_and_more(self):
        # Of all classes: the rows (a / 2,) below the far row.
        check_same(self, left_behind(TWO, (0,), (10000,)), 10000 ** 2)
        check_error(self, TooMany, 20000, left_behind, TWO, (0,), (10001,))
        check_same(self, left_behind(TWO, (1,), (9999,)), 9999 * 10000)
        check_error(self, TooMany, 20000, left_behind, TWO, (1,), (10000,))
        check_error(self, TooMany, 20000, left_behind, TWO, (0,), (BIG,))
        check_error(self, TooMany, 20000, left_behind, SEVEN, ZERO, (BIG, BIG // 2 + 1, BIG // 3 + 1, BIG // 7 + 1))
        check_error(self, TooMany, 20000, left_behind, FOUR, ZERO, (2 * 10 ** 9, 10 ** 9, 10 ** 9, 10 ** 9))
        many = 0
        for times in range(1, 60):
            row = tuple(times * entry for entry in (2, 2))
            terms = len(terms_behind(LINE, (0, 0), row)) if times < 30 else None
            if terms is not None:
                self.assertEqual(left_behind(LINE, (0, 0), row), worth(LINE, row))
                many = max(many, terms)
        self.assertGreater(many, 1000)

    def test_errors(self):
        for value in odd_values():
            if not isinstance(value, Tree):
                check_error(self, InvalidTree, NO_VALUE, left_behind, value, value, value)
                check_error(self, InvalidTree, NO_VALUE, is_far, value, value, value)
                check_error(self, InvalidTree, NO_VALUE, far_row, value, value)
        for tree, kind, kept in ((BARRED, Refused, ("bar",)), (OVER, TooMany, 400)):
            check_error(self, kind, kept, left_behind, tree, None, None)
            check_error(self, kind, kept, is_far, tree, None, None)
            check_error(self, kind, kept, far_row, tree, None)
        for class_ in (None, (2,), [0], (True,), (0, 0), (LONG,)):
            check_error(self, InvalidClass, NO_VALUE, left_behind, TWO, class_, None)
            check_error(self, InvalidClass, NO_VALUE, is_far, TWO, class_, None)
            check_error(self, InvalidClass, NO_VALUE, far_row, TWO, class_)
        for row in (None, (), (1, 1), [1], (True,), ((1, 1),), (TOO_BIG,), (LONG,), "1", 1):
            check_error(self, InvalidRow, NO_VALUE, left_behind, TWO, (0,), row)


class NotTrue(unittest.TestCase):
    def test_17_7(self):
        self.assertEqual((left_by_words(SEVEN, ZERO, ZERO), worth(SEVEN, ZERO) + class_count(SEVEN, ZERO)), (0, 1))
        self.assertEqual(coefficient(TWO, (3,)), 4)
        self.assertIs(is_far(SEVEN, ZERO, least_cycle(SEVEN)), False)
        self.assertEqual(Fraction(*boxed_row(TWO, (1,))[0]), Fraction(1, 2))
        self.assertEqual(sure_box(SEVEN, ZERO)[1], (2, 1, 1, 1))


if __name__ == "__main__":
    unittest.main()
