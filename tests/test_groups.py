"""Stage 5: [5.1] to [5.5], with [0.4] to [0.7] and [0.13], for tametrees.trees.groups."""

import itertools
import math
import unittest
from fractions import Fraction

from tametrees.base.tables import factors
from tametrees.errors import InvalidClass, InvalidNumber, InvalidOperation, InvalidRow, InvalidTree, Refused, TooMany
from tametrees.trees.definite import determinant_of, is_definite
from tametrees.trees.duals import dual_row, is_dual
from tametrees.trees.groups import (
    MAX_CLASSES, boxed_row, class_factors, class_of, class_opposite, class_order, class_product, class_sum, classes_of,
    halves_of, is_class, place_class,
)
from tametrees.trees.trees import Tree, made_tree
from tests.helpers import (
    BIG, LONG, NO_VALUE, TOO_BIG, check_error, check_same, made_line, made_star, odd_values, pair, press_by_ties,
    product_by_ties, random_trees,
)

LINE, STAR, LONE = Tree.line((2, 2)), Tree.star(2, ((2,), (2,), (2,))), Tree.line((3,))
LEGS = Tree.star(2, ((2,), (2,), (3,)))
ONE = Tree((1,), ())
FULL, OVER = Tree.line((5, 2, 45)), Tree.line((6, 2, 37))
BARRED = Tree.line((1, 1))
FORTY = made_star(60, (1,) * 39)
LONG_LINE = made_line((2,) * 40)

# Every function of the module, with right values behind the tree LINE.
CALLS = (
    (is_class, ((1, 2),)), (classes_of, ()), (class_of, ((1, 2),)), (boxed_row, ((1, 2),)), (place_class, (0,)),
    (class_sum, ((1, 2), (2, 1))), (class_opposite, ((1, 2),)), (class_order, ((1, 2),)),
    (class_product, ((1, 2), (2, 1))), (class_factors, ()), (halves_of, ()),
)
NO_CLASSES = (
    (), (1,), (1, 1), (1, 2, 0), [1, 2], (0, 3), (-1, 1), (-2, -1), (4, 5), (3, 0), (True, 2), (1, True), (False, False), (False, 0),
    (1, None), (1, "2"), "12", None, True, 0, 3, {}, {1: 2}, ((1, 3), (2, 3)), ((1, 1), (2, 1)), (0, BIG), (0, TOO_BIG), (0, -LONG), LINE,
)


def classed_trees(seed, count, sizes, most=400):
    found = [tree for tree in random_trees(seed, count * 6, sizes, 1, 5) if is_definite(tree) and determinant_of(tree) <= most]
    return found[:count]


def sample_trees():
    return classed_trees(61, 40, range(1, 8), 60) + [LINE, STAR, LONE, LEGS, ONE, Tree.star(3, ((2,), (2,), (2,)))]


def classes_by_trying(tree):
    """All tuples of integers from 0 to below D whose row, divided by D, is dual."""
    whole = determinant_of(tree)
    return tuple(value for value in itertools.product(range(whole), repeat=tree.size)
                 if all(press % whole == 0 for press in press_by_ties(tree, value)))


def parts(tree, class_):
    return [Fraction(part, determinant_of(tree)) for part in class_]


class Checks(unittest.TestCase):
    def test_the_bound(self):
        check_same(self, MAX_CLASSES, 400)

    def test_no_trees(self):
        for value in odd_values():
            if not isinstance(value, Tree):
                for call, values in CALLS:
                    check_error(self, InvalidTree, NO_VALUE, call, value, *values)
                    check_error(self, InvalidTree, NO_VALUE, call, value, *((None,) * len(values)))

    def test_trees_that_are_not_definite(self):
        for tree in (BARRED, Tree((0,), ()), Tree.line((1,) * 6), Tree((2,) * 5, ((0, 1), (0, 2), (0, 3), (0, 4))), made_star(39, (1,) * 39)):
            for call, values in CALLS:
                check_error(self, Refused, ("bar",), call, tree, *values)
                check_error(self, Refused, ("bar",), call, tree, *((None,) * len(values)))

    def test_determinants_above_400(self):
        self.assertEqual([determinant_of(tree) for tree in (FULL, OVER)], [400, 401])
        for tree in (OVER, Tree.line((60, 60)), Tree.line((60,) * 12), made_tree((401,), ()), made_tree((LONG,), ()), made_star(440, (1,) * 39),
                     made_line((3,) * 40)):
            for call, values in CALLS:
                check_error(self, TooMany, 400, call, tree, *values)
                check_error(self, TooMany, 400, call, tree, *((None,) * len(values)))

    def test_a_bar_comes_ahead_of_a_great_determinant(self):
        for tree in (Tree.line((1, 1, 1, 60, 60, 1, 1, 1)), made_line((0, 0, LONG, LONG, 0, 0))):
            self.assertGreater(determinant_of(tree), 400)
            for call, values in CALLS:
                check_error(self, Refused, ("bar",), call, tree, *values)

    def test_determinants_at_400(self):
        for tree in (FULL, made_tree((400,), ()), made_star(439, (1,) * 39), Tree.line((20, 20))):
            found = classes_of(tree)
            whole = determinant_of(tree)
            self.assertEqual((len(found), len(set(found)), found), (whole, whole, tuple(sorted(found))))
            self.assertTrue(all(is_class(tree, class_) for class_ in found))
            check_same(self, math.prod(class_factors(tree)), whole)
            for call, values in CALLS:
                if call is not class_of and values and not isinstance(values[0], int):
                    again = tuple(found[at - 2] for at in range(len(values)))
                    call(tree, *again)

    def test_classes_of_wrong_form(self):
        for value in NO_CLASSES:
            with self.subTest(repr(value)):
                for call in (boxed_row, class_opposite, class_order):
                    check_error(self, InvalidClass, NO_VALUE, call, LINE, value)
                for call in (class_sum, class_product):
                    check_error(self, InvalidClass, NO_VALUE, call, LINE, value, (1, 2))
                    check_error(self, InvalidClass, NO_VALUE, call, LINE, (1, 2), value)
                    check_error(self, InvalidClass, NO_VALUE, call, LINE, value, value)
        for value in odd_values():
            for call in (boxed_row, class_opposite, class_order):
                check_error(self, InvalidClass, NO_VALUE, call, STAR, value)
            for call in (class_sum, class_product):
                check_error(self, InvalidClass, NO_VALUE, call, STAR, value, (0, 0, 0, 0))
                check_error(self, InvalidClass, NO_VALUE, call, STAR, (0, 0, 0, 0), value)

    def test_rows_and_places_of_wrong_form(self):
        for value in ((1,), (1, 2, 3), [1, 2], "12", None, True, 1, (1, True), (1, (2, 4)), (1, (1, 0)), (1, TOO_BIG), ((1, TOO_BIG), 0), LINE):
            check_error(self, InvalidRow, NO_VALUE, class_of, LINE, value)
        for value in (-1, 2, None, True, False, "0", (0,), [0], BIG, -LONG):
            check_error(self, InvalidNumber, value, place_class, LINE, value)
        for value in odd_values():
            check_error(self, InvalidRow, NO_VALUE, class_of, STAR, value)


class Classes(unittest.TestCase):
    def test_all_classes_of_small_trees(self):
        for tree in sample_trees():
            if determinant_of(tree) ** tree.size <= 20000:
                found = classes_by_trying(tree)
                check_same(self, classes_of(tree), found)
                self.assertEqual(len(found), determinant_of(tree))
                for value in itertools.product(range(-1, determinant_of(tree) + 1), repeat=tree.size):
                    self.assertIs(is_class(tree, value), value in found)

    def test_there_are_as_many_classes_as_the_determinant(self):
        for tree in classed_trees(62, 30, range(1, 13)) + [FORTY, LONG_LINE, FULL]:
            found = classes_of(tree)
            self.assertEqual((type(found), len(found)), (tuple, determinant_of(tree)))
            self.assertTrue(all(one < other for one, other in zip(found, found[1:])))
            for class_ in found[:40]:
                self.assertIs(is_class(tree, class_), True)
                row = tuple(pair(entry) for entry in parts(tree, class_))
                self.assertIs(is_dual(tree, row), True)
                check_same(self, boxed_row(tree, class_), row)
                check_same(self, class_of(tree, row), class_)

    def test_what_is_no_class(self):
        for value in NO_CLASSES:
            self.assertIs(is_class(LINE, value), False)
        for value in odd_values():
            for tree in (LINE, STAR, FORTY):
                self.assertIs(is_class(tree, value), tree is LINE and type(value) is tuple and value == (1, 2) and type(value[0]) is int)
                self.assertIs(type(is_class(tree, (value,) * tree.size)), bool)
            self.assertIs(is_class(ONE, value), value == (0,) and type(value) is tuple)

    def test_lone_places(self):
        check_same(self, classes_of(ONE), ((0,),))
        check_same(self, (class_factors(ONE), halves_of(ONE), place_class(ONE, 0)), ((), ((0,),), (0,)))
        tree = Tree((60,), ())
        check_same(self, classes_of(tree), tuple((part,) for part in range(60)))
        check_same(self, (class_factors(tree), halves_of(tree), place_class(tree, 0)), ((60,), ((0,), (30,)), (1,)))


class Rows(unittest.TestCase):
    def test_rows_of_one_class_differ_by_integers(self):
        for tree in sample_trees():
            for at, class_ in enumerate(classes_of(tree)):
                row = [entry + at - 3 * place for place, entry in enumerate(parts(tree, class_))]
                check_same(self, class_of(tree, tuple(pair(Fraction(entry)) for entry in row)), class_)
                whole = tuple(int(entry) if Fraction(entry).denominator == 1 else pair(entry) for entry in row)
                check_same(self, class_of(tree, whole), class_)
            check_same(self, class_of(tree, (BIG,) * tree.size), (0,) * tree.size)

    def test_rows_that_are_not_dual(self):
        for tree, row in ((LINE, ((1, 2), 0)), (LINE, ((1, 3), (1, 3))), (STAR, ((1, 2), 0, 0, 0)), (ONE, ((1, 2),)), (LONE, ((1, 2),))):
            check_error(self, InvalidOperation, NO_VALUE, class_of, tree, row)
        for row in itertools.product([0, (1, 2), (1, 3), (2, 3), (1, 6)], repeat=2):
            if is_dual(LINE, row):
                self.assertIs(is_class(LINE, class_of(LINE, row)), True)
            else:
                check_error(self, InvalidOperation, NO_VALUE, class_of, LINE, row)

    def test_classes_of_places(self):
        for tree in sample_trees() + [FORTY, LONG_LINE]:
            for place in range(0, tree.size, 1 + tree.size // 8):
                check_same(self, place_class(tree, place), class_of(tree, dual_row(tree, place)))


class Sums(unittest.TestCase):
    def test_sums_opposites_and_orders(self):
        for tree in sample_trees():
            whole, zero = determinant_of(tree), (0,) * tree.size
            found = classes_of(tree)
            for one in found:
                opposite = class_opposite(tree, one)
                self.assertIs(is_class(tree, opposite), True)
                check_same(self, class_sum(tree, one, opposite), zero)
                check_same(self, class_opposite(tree, opposite), one)
                order = next(k for k in range(1, whole + 1) if all((Fraction(part, whole) * k).denominator == 1 for part in one))
                check_same(self, class_order(tree, one), order)
                for other in found[:12]:
                    total = class_sum(tree, one, other)
                    check_same(self, total, tuple((x + y) % whole for x, y in zip(one, other)))
                    self.assertIs(is_class(tree, total), True)

    def test_large_trees(self):
        for tree in (FORTY, LONG_LINE):
            found = classes_of(tree)
            one, other = found[1], found[-1]
            self.assertIn(class_sum(tree, one, other), found)
            self.assertIn(class_opposite(tree, one), found)
            self.assertEqual(determinant_of(tree) % class_order(tree, one), 0)
            check_same(self, class_product(tree, one, other), class_product(tree, other, one))
        check_same(self, class_order(LONG_LINE, place_class(LONG_LINE, 0)), 41)


class Products(unittest.TestCase):
    def test_products(self):
        for tree in sample_trees():
            whole = determinant_of(tree)
            for one, other in itertools.product(classes_of(tree)[:15], repeat=2):
                exact = product_by_ties(tree, parts(tree, one), parts(tree, other))
                m = class_product(tree, one, other)
                self.assertIs(type(m), int)
                self.assertTrue(0 <= m < whole)
                self.assertEqual((Fraction(m, whole) - exact).denominator, 1)
                check_same(self, class_product(tree, other, one), m)
                third = class_sum(tree, one, other)
                expected = (class_product(tree, one, one) + m) % whole
                check_same(self, class_product(tree, one, third), expected)

    def test_products_hang_on_the_classes_alone(self):
        for tree in (LINE, STAR, LEGS):
            for one, other in itertools.product(classes_of(tree), repeat=2):
                row = [entry + place - 2 for place, entry in enumerate(parts(tree, one))]
                more = [entry - 5 * place for place, entry in enumerate(parts(tree, other))]
                exact = product_by_ties(tree, row, more)
                self.assertEqual((Fraction(class_product(tree, one, other), determinant_of(tree)) - exact).denominator, 1)

    def test_each_class_has_a_product_other_than_0_with_some_class(self):
        for tree in sample_trees():
            found = classes_of(tree)
            for one in found:
                self.assertEqual(any(class_product(tree, one, other) for other in found), any(one))


class Factors(unittest.TestCase):
    def test_factors(self):
        for tree in sample_trees() + classed_trees(63, 30, range(1, 13)):
            found = class_factors(tree)
            check_same(self, found, tuple(factor for factor in factors(tree.table) if factor > 1))
            self.assertEqual(math.prod(found), determinant_of(tree))
            orders = [class_order(tree, class_) for class_ in classes_of(tree)]
            self.assertEqual(max(orders), found[-1] if found else 1)
            for order in set(orders):
                # So many classes have an order that divides this one.
                many = math.prod(math.gcd(order, factor) for factor in found)
                self.assertEqual(sum(order % other == 0 for other in orders), many)

    def test_factors_of_large_trees(self):
        check_same(self, class_factors(LONG_LINE), (41,))
        check_same(self, class_factors(FORTY), (21,))
        check_same(self, class_factors(made_star(20, (2,) * 5 + (1,) * 14)), tuple(factors_of_star(20 - 14, 5)))
        check_same(self, class_factors(made_line((1,) + (2,) * 39)), ())

    def test_halves(self):
        for tree in sample_trees() + classed_trees(64, 20, range(1, 13)) + [FORTY, LONG_LINE, FULL]:
            found = halves_of(tree)
            zero = (0,) * tree.size
            check_same(self, found, tuple(class_ for class_ in classes_of(tree) if class_sum(tree, class_, class_) == zero))
            self.assertEqual(len(found), 2 ** sum(factor % 2 == 0 for factor in class_factors(tree)))


def factors_of_star(middle, legs):
    """The factors above 1 of a star of `middle` with so many legs (2,), by the module of tables."""
    return [factor for factor in factors(Tree.star(middle, ((2,),) * legs).table) if factor > 1]


class Places(unittest.TestCase):
    def test_the_class_of_a_place_times_its_number(self):
        for tree in sample_trees() + [FORTY]:
            whole = determinant_of(tree)
            rows = [place_class(tree, place) for place in range(tree.size)]
            for place in range(tree.size):
                total = (0,) * tree.size
                for other in tree.neighbours(place):
                    total = class_sum(tree, total, rows[other])
                self.assertEqual(tuple(part * tree[place] % whole for part in rows[place]), total)

    def test_places_of_the_degree_1_but_one_give_all_classes(self):
        for tree in sample_trees():
            ends = [place for place in range(tree.size) if tree.degrees[place] == 1]
            for left_out in ends:
                found = {(0,) * tree.size}
                for place in ends:
                    if place != left_out:
                        more = place_class(tree, place)
                        for _ in range(determinant_of(tree)):
                            found |= {class_sum(tree, class_, more) for class_ in found}
                            if len(found) == determinant_of(tree):
                                break
                self.assertEqual(tuple(sorted(found)), classes_of(tree))


class NotTrue(unittest.TestCase):
    def test_5_5(self):
        self.assertEqual(class_factors(LINE), class_factors(LONE))
        told = [sorted(class_product(tree, one, one) for one in classes_of(tree)) for tree in (LINE, LONE)]
        self.assertEqual(told, [[0, 1, 1], [0, 2, 2]])
        self.assertEqual(class_product(STAR, (0, 2, 2, 0), (0, 2, 2, 0)), 0)
        self.assertEqual((LEGS.degrees[3], class_order(LEGS, place_class(LEGS, 3)), class_factors(LEGS)), (1, 4, (8,)))


if __name__ == "__main__":
    unittest.main()
