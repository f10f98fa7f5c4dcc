"""Stage 12: [12.1] to [12.7], with [0.4] to [0.7], [0.13] and [0.14], for tametrees.odd.heights."""

import itertools
import math
import random
import unittest
from fractions import Fraction

from tametrees.errors import InvalidClass, InvalidRow, InvalidTree, Refused, TooMany
from tametrees.odd.heights import (
    MOST_PRESSES, MOST_STEPS, height, height_path, highest, is_highest, odd_class, odd_square,
)
from tametrees.rows.depth import k_row
from tametrees.rows.steps import quiet_above
from tametrees.rows.tame import is_tame
from tametrees.trees.definite import determinant_of
from tametrees.trees.kin import put_at_place
from tametrees.trees.groups import boxed_row, class_of, classes_of, is_class
from tametrees.trees.trees import Tree, made_tree
from tests.helpers import (
    BIG, LONG, NO_VALUE, TOO_BIG, check_error, check_same, definite_trees, fractions_of, k_by_elimination, made_line, made_star, odd_values,
    pair, press_by_ties, product_by_ties, put_up_often, put_up_to_sum, row_by_presses, wild_trees, worth_by_k,
)

ONE, TWO, THREE, LINE = Tree((1,), ()), Tree((2,), ()), Tree((3,), ()), Tree.line((2, 2))
SEVEN, BARRED = Tree.star(1, ((2,), (3,), (7,))), Tree.line((1, 1))
OVER = Tree.line((6, 2, 37))
HUGE = 10 ** 120


def small_trees_with_few_presses(seed, count):
    found = definite_trees(seed, count, range(1, 6), 1, 4, 60)
    return [tree for tree in found if math.prod(tree) <= 150] + [ONE, TWO, THREE, LINE, SEVEN, Tree.star(2, ((2,), (2,), (2,), (3,)))]


def square_of(tree, presses):
    return sum((entry * press for entry, press in zip(row_by_presses(tree, presses), presses)), Fraction(0))


def class_by_words(tree, presses):
    """The class of (k - K) / 2."""
    row = [(x - y) / 2 for x, y in zip(row_by_presses(tree, presses), k_by_elimination(tree))]
    return tuple(int((entry - math.floor(entry)) * determinant_of(tree)) for entry in row)


def presses_within(tree, low):
    """All presses of odd rows from `low`(b) to b at each place."""
    return itertools.product(*[range(low(number), number + 1, 2) for number in tree])


def best_rows(tree):
    """For each class the greatest square and the presses of all rows that reach it; they have presses from -b to b."""
    found = {}
    for presses in presses_within(tree, lambda number: -number):
        class_, square = class_by_words(tree, presses), square_of(tree, presses)
        best, rows = found.get(class_, (square, []))
        if square > best:
            best, rows = square, []
        if square == best:
            rows.append(presses)
        found[class_] = (best, rows)
    return found


def path_in_any_sequence(source, tree, presses):
    left, places = list(presses), []
    while max(press - number for press, number in zip(left, tree)) == 0:
        place = source.choice([at for at in range(tree.size) if left[at] == tree[at]])
        places.append(place)
        left[place] -= 2 * tree[place]
        for other in tree.neighbours(place):
            left[other] += 2
    return places, tuple(left)


def ends_well(tree, presses):
    return all(press < number for press, number in zip(presses, tree))


def random_presses(source, tree, far=3):
    return tuple(number + 2 * source.randint(-far - number, far) for number in tree)


class OddRows(unittest.TestCase):
    def test_the_bounds(self):
        check_same(self, (MOST_PRESSES, MOST_STEPS), (20000, 10000))

    def test_classes_and_squares(self):
        source = random.Random(121)
        for tree in definite_trees(122, 40, range(1, 9), 1, 5) + wild_trees():
            for presses in (random_presses(source, tree), tuple(tree), tuple(number - 2 for number in tree), tuple(-number for number in tree)):
                check_same(self, odd_class(tree, presses), class_by_words(tree, presses))
                check_same(self, odd_square(tree, presses), pair(Fraction(square_of(tree, presses))))
            check_same(self, odd_class(tree, tuple(number - 2 for number in tree)), (0,) * tree.size)

    def test_12_1_rows_of_one_class(self):
        source = random.Random(123)
        for tree in definite_trees(124, 25, range(1, 7), 1, 4, 400):
            presses = random_presses(source, tree)
            class_ = odd_class(tree, presses)
            self.assertIs(is_class(tree, class_), True)
            half = [(x - y) / 2 for x, y in zip(row_by_presses(tree, presses), k_by_elimination(tree))]
            check_same(self, class_of(tree, tuple(pair(entry) for entry in half)), class_)
            row = [2 * source.randint(-3, 3) for _ in tree]
            moved = tuple(press + more for press, more in zip(presses, press_by_ties(tree, row)))
            check_same(self, odd_class(tree, moved), class_)

    def test_12_3_adding_at_a_place(self):
        source = random.Random(125)
        for tree in definite_trees(126, 20, range(1, 7), 1, 4) + wild_trees()[:6]:
            presses = random_presses(source, tree)
            for place in range(tree.size):
                moved = [press + 2 * (other in tree.neighbours(place)) for other, press in enumerate(presses)]
                moved[place] -= 2 * tree[place]
                difference = Fraction(*odd_square(tree, tuple(moved))) - Fraction(*odd_square(tree, presses))
                self.assertEqual(difference, 4 * (presses[place] - tree[place]))

    def test_large_trees_and_long_presses(self):
        for tree in (made_line((2,) * 30), made_star(40, (1,) * 39), made_line((LONG,) * 4), made_line((3,) * 20)):
            presses = tuple(number - 2 * (place % 3) if number < 1000 else 1 for place, number in enumerate(tree))
            whole = determinant_of(tree)
            class_ = odd_class(tree, presses)
            self.assertTrue(all(0 <= part < whole for part in class_))
            row = row_by_presses(tree, presses)
            check_same(self, odd_square(tree, presses), pair(Fraction(product_by_ties(tree, row, row))))
        check_same(self, odd_square(TWO, (BIG - 1,)), pair(Fraction(-(BIG - 1) ** 2, 2)))
        check_same(self, odd_class(TWO, (BIG - 1,)), class_by_words(TWO, (BIG - 1,)))
        # The determinant need not be that of a classed tree here.
        check_same(self, odd_class(OVER, (6, 2, 37)), class_by_words(OVER, (6, 2, 37)))

    def test_presses_of_wrong_form(self):
        for value in ((), (2,), (2, 2, 2), [2, 2], (1, 2), (2, 1), (True, 2), (2, False), (2, None), (2, "2"), (2, (2, 1)), (2, TOO_BIG), (-LONG, 2), "22", None, 2, {0: 2, 1: 2}, LINE):
            for call in (odd_class, odd_square, height_path):
                with self.subTest((call.__name__, repr(value))):
                    check_error(self, InvalidRow, NO_VALUE, call, LINE, value)
        for value in odd_values():
            for call in (odd_class, odd_square, height_path):
                if type(value) is not tuple or value not in ((0, 1), (1, 0), (2, 4)):
                    check_error(self, InvalidRow, NO_VALUE, call, LINE, value)
                check_error(self, InvalidRow, NO_VALUE, call, SEVEN, value)
        for number in (0, 2, -2, 4, BIG):
            check_error(self, InvalidRow, NO_VALUE, odd_class, THREE, (number + number % 2,))

    def test_trees_of_wrong_form_come_first(self):
        for call in (odd_class, odd_square, height_path):
            for value in odd_values():
                if not isinstance(value, Tree):
                    check_error(self, InvalidTree, NO_VALUE, call, value, value)
            for tree in (BARRED, Tree((0,), ()), made_star(39, (1,) * 39)):
                check_error(self, Refused, ("bar",), call, tree, tree.numbers)
                check_error(self, Refused, ("bar",), call, tree, None)


class Paths(unittest.TestCase):
    def test_12_4_the_least_place_is_added(self):
        source = random.Random(127)
        for tree in definite_trees(128, 40, range(1, 9), 1, 4) + wild_trees():
            for _ in range(6):
                presses = tuple(number - 2 * source.randint(0, number) for number in tree)
                places, end = height_path(tree, presses)
                left = list(presses)
                for place in places:
                    self.assertTrue(all(press <= number for press, number in zip(left, tree)))
                    self.assertEqual(place, min(at for at in range(tree.size) if left[at] == tree[at]))
                    left[place] -= 2 * tree[place]
                    for other in tree.neighbours(place):
                        left[other] += 2
                self.assertTrue(ends_well(tree, left) or any(press > number for press, number in zip(left, tree)))
                check_same(self, (places, end), (tuple(places), tuple(left)))
                check_same(self, odd_square(tree, end), odd_square(tree, presses))

    def test_12_4_the_choices_do_not_matter(self):
        source = random.Random(129)
        for tree in definite_trees(130, 40, range(1, 8), 1, 3):
            for _ in range(6):
                presses = tuple(number - 2 * source.randint(0, number) for number in tree)
                places, end = height_path(tree, presses)
                more, other = path_in_any_sequence(source, tree, presses)
                self.assertEqual(ends_well(tree, end), ends_well(tree, other))
                if ends_well(tree, end):
                    self.assertEqual((sorted(places), end), (sorted(more), other))

    def test_paths_that_fail_at_their_begin(self):
        check_same(self, height_path(TWO, (4,)), ((), (4,)))
        check_same(self, height_path(LINE, (2, BIG - 1)), ((), (2, BIG - 1)))
        check_same(self, height_path(LINE, (1 - BIG, 2))[0], (1,))
        check_same(self, height_path(ONE, (1,)), ((0,), (-1,)))
        check_same(self, height_path(made_line((2,) * 40), (0,) * 40), ((), (0,) * 40))

    def test_just_10000_places_and_one_more(self):
        # On trees that are kin to the lone place with 1 the path of -K goes to K, and so adds K: its entries are above 0.
        for total in (17, 1000, 9999, 10000, 10001, 10002, 50000):
            tree, k = put_up_to_sum(total, 1)
            check_same(self, k_row(tree), tuple((entry, 1) for entry in k))
            presses = tuple(2 - number for number in tree)
            if total > 10000:
                check_error(self, TooMany, 10000, height_path, tree, presses)
            else:
                places, end = height_path(tree, presses)
                self.assertEqual(tuple(places.count(place) for place in range(tree.size)), k)
                check_same(self, end, tuple(number - 2 for number in tree))


class Heights(unittest.TestCase):
    def test_heights_by_all_rows(self):
        for tree in small_trees_with_few_presses(131, 40):
            best = best_rows(tree)
            self.assertEqual(tuple(sorted(best)), classes_of(tree))
            for class_, (square, rows) in best.items():
                check_same(self, height(tree, class_), pair(Fraction(square + tree.size) / 4))
                self.assertIn(highest(tree, class_), rows)
                if math.prod(tree) <= 40:
                    for presses in presses_within(tree, lambda number: -number - 2):
                        self.assertIs(is_highest(tree, class_, presses), presses in rows)

    def test_12_2_opposite_rows(self):
        for tree in small_trees_with_few_presses(132, 25):
            for class_ in classes_of(tree):
                opposite = tuple(-press for press in highest(tree, class_))
                self.assertIs(is_highest(tree, odd_class(tree, opposite), opposite), True)

    def test_12_5_paths_of_highest_rows_end_well(self):
        for tree in small_trees_with_few_presses(133, 25):
            for class_, (square, rows) in best_rows(tree).items():
                for presses in rows:
                    self.assertTrue(ends_well(tree, height_path(tree, presses)[1]))
                well = [presses for presses in presses_within(tree, lambda number: 2 - number)
                        if class_by_words(tree, presses) == class_ and ends_well(tree, height_path(tree, presses)[1])]
                self.assertEqual(max(square_of(tree, presses) for presses in well), square)

    def test_12_6_heights_by_worths(self):
        for tree in small_trees_with_few_presses(134, 25):
            if is_tame(tree):
                for class_ in classes_of(tree):
                    k, row = k_by_elimination(tree), boxed_row(tree, class_)
                    least = worth_by_k(tree, fractions_of(quiet_above(tree, row)))
                    expected = Fraction(product_by_ties(tree, k, k) + tree.size) / 4 - 2 * least
                    check_same(self, height(tree, class_), pair(Fraction(expected)))

    def test_places_put_up_keep_the_heights(self):
        source = random.Random(135)
        for tree in small_trees_with_few_presses(136, 20):
            higher = put_up_often(source, tree, 2)
            for class_ in classes_of(higher):
                check_same(self, height(higher, class_), height(tree, class_[:tree.size]))

    def test_just_20000_presses_and_more(self):
        full, over = line_with_leaves((2, 2, 2, 2, 2, 5, 5, 5, 5)), line_with_leaves((3, 3, 3, 3, 13, 19))
        self.assertEqual((math.prod(full), determinant_of(full)), (20000, 10))
        self.assertEqual((math.prod(over), determinant_of(over)), (20007, 7))
        for class_ in classes_of(full)[::6]:
            found = highest(full, class_)
            self.assertIs(is_highest(full, class_, found), True)
            check_same(self, height(full, class_), pair((square_of(full, found) + full.size) / 4))
            # Taking the leaves down leaves a line of nine twos.
            check_same(self, height(full, class_), height(Tree.line((2,) * 9), class_[:9]))
        for tree in (over, made_line((2,) * 15), made_line((2,) * 40), line_with_leaves((5,) * 7), line_with_leaves((2,) * 12 + (5,))):
            zero = (0,) * tree.size
            for call, more in ((height, ()), (highest, ()), (is_highest, (zero,))):
                check_error(self, TooMany, 20000, call, tree, zero, *more)
                check_error(self, InvalidClass, NO_VALUE, call, tree, None, *more)
        check_same(self, height(made_line((2,) * 14), (0,) * 14), (14 // 2, 2))

    def test_trees_of_one_place(self):
        for number in (1, 2, 3, 60, 400):
            tree = made_tree((number,), ())
            for part in (0, 1, number - 1) if number > 1 else (0,):
                square = max(Fraction(-press * press, number) for press in range(-number, number + 1, 2) if class_by_words(tree, (press,)) == (part,))
                check_same(self, height(tree, (part,)), pair((square + 1) / 4))


def line_with_leaves(numbers):
    """A line of these numbers with so many leaves of 1 that it comes down to a line of twos."""
    tree = Tree.line((2,) * len(numbers)) if len(numbers) <= 12 else made_line((2,) * len(numbers))
    for place, number in enumerate(numbers):
        for _ in range(number - 2):
            tree = put_at_place(tree, place)
    return tree


class Judged(unittest.TestCase):
    def test_rows_near_right_ones(self):
        for value in ((2,), (-2,)):
            self.assertIs(is_highest(TWO, (1,), value), True)
        for value in ((0,), (4,), (-6,), (1,), (True,), [2], 2, (2, 2), (), ((2, 1),), ((2,),), None, "2", (None,), (HUGE,), (-HUGE,), (2 * HUGE,), TWO, {0: 2}):
            self.assertIs(is_highest(TWO, (1,), value), False)
        self.assertIs(is_highest(TWO, (0,), (0,)), True)
        self.assertIs(is_highest(TWO, (0,), (False,)), False)

    def test_odd_values_are_judged(self):
        for value in odd_values():
            for tree, class_ in ((TWO, (0,)), (LINE, (1, 2)), (SEVEN, (0,) * 4)):
                self.assertIs(is_highest(tree, class_, value), tree is TWO and type(value) is tuple and value == (0,) and type(value[0]) is int)
                self.assertIs(type(is_highest(tree, class_, (value,) * tree.size)), bool)
            self.assertIs(is_highest(TWO, (0,), (value,)), type(value) is int and value == 0)

    def test_errors_in_their_sequence(self):
        for value in odd_values():
            if not isinstance(value, Tree):
                for call, more in ((height, ()), (highest, ()), (is_highest, (value,))):
                    check_error(self, InvalidTree, NO_VALUE, call, value, (0,), *more)
                    check_error(self, InvalidTree, NO_VALUE, call, value, value, *more)
            for call, more in ((height, ()), (highest, ()), (is_highest, (value,))):
                check_error(self, InvalidClass, NO_VALUE, call, SEVEN, value, *more)
        for call, more in ((height, ()), (highest, ()), (is_highest, (None,))):
            for value in ((2,), (-1,), (0, 0), [0], (True,), None, 0, (LONG,), ((0, 1),)):
                check_error(self, InvalidClass, NO_VALUE, call, TWO, value, *more)
            check_error(self, Refused, ("bar",), call, BARRED, None, *more)
            check_error(self, TooMany, 400, call, OVER, None, *more)
            check_error(self, TooMany, 400, call, made_line((60,) * 12), (0,) * 12, *more)
            check_error(self, InvalidClass, NO_VALUE, call, made_line((2,) * 40), (1,) * 40, *more)
            check_error(self, TooMany, 20000, call, made_line((2,) * 40), (0,) * 40, *more)


class NotTrue(unittest.TestCase):
    def test_12_7(self):
        self.assertTrue(ends_well(THREE, height_path(THREE, (3,))[1]))
        self.assertEqual((is_highest(TWO, (0,), (0,)), is_highest(TWO, (0,), (4,)), is_highest(TWO, (0,), (-4,))), (True, False, False))
        self.assertEqual(height(THREE, (0,)), height(THREE, (1,)))


if __name__ == "__main__":
    unittest.main()
