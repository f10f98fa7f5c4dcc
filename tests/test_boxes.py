"""Stage 16: [16.1] to [16.6], with [0.4] to [0.7] and [0.16], for tametrees.low.boxes."""

import itertools
import random
import unittest

from tametrees.errors import InvalidClass, InvalidNumber, InvalidOperation, InvalidRow, InvalidTree, Refused, TooMany
from tametrees.low.boxes import MAX_CELLS, box_count, class_count, euler_numbers, sure_box
from tametrees.low.near import near_count
from tametrees.low.pieces import least_level
from tametrees.rows.tame import is_tame
from tametrees.trees.definite import determinant_of
from tametrees.trees.groups import class_of, classes_of
from tametrees.trees.kin import put_at_tie
from tametrees.trees.trees import Tree, made_tree
from tests.helpers import (
    BIG, LONG, NO_VALUE, TOO_BIG, check_error, check_same, definite_trees, far_by_steps, fractions_of, k_by_elimination, made_line, made_star,
    odd_values, pair, put_up_often, quiet_by_steps, row_by_presses, presses_of_boxed_row, some_classes, sum_of_rows, wild_trees, worth_by_k,
    worth_in_by_numbers,
)

ONE, TWO, THREE, LINE = Tree((1,), ()), Tree((2,), ()), Tree((3,), ()), Tree.line((2, 2))
SEVEN, THIRD = Tree.star(1, ((2,), (3,), (7,))), Tree.star(1, ((2,), (3,), (13,)))
BARRED, OVER, ZERO = Tree.line((1, 1)), Tree.line((6, 2, 37)), (0, 0, 0, 0)
# Its sure box has more than 20,000 cells.
STEEP = made_star(1, (2, 3, 7, 43))


def sample(seed, count, many=2, sizes=range(1, 6)):
    source = random.Random(seed)
    trees = definite_trees(seed, count, sizes, 1, 4, 60) + [ONE, TWO, THREE, LINE, SEVEN, THIRD]
    return [(tree, class_) for tree in trees for class_ in some_classes(source, tree, many, classes_of(tree))]


def cells_by_words(tree, class_, low, high):
    """All cells as pairs of the worth and of how many places I has."""
    worths = {row: worth_in_by_numbers(tree, class_, row) for row in itertools.product(*[range(x, y + 1) for x, y in zip(low, high)])}
    cells = []
    for row in worths:
        open_places = [place for place in range(tree.size) if row[place] < high[place]]
        for many in range(len(open_places) + 1):
            for places in itertools.combinations(open_places, many):
                corners = itertools.product(*[(x, x + 1) if at in places else (x,) for at, x in enumerate(row)])
                cells.append((max(worths[corner] for corner in corners), many))
    return cells


def number_of_cells(low, high):
    total = 1
    for x, y in zip(low, high):
        total *= 2 * (y - x) + 1
    return total


def signed_sum(cells):
    return sum(worth if many % 2 else -worth for worth, many in cells)


def euler(cells, level):
    return sum((-1) ** many for worth, many in cells if worth <= level)


class Sure(unittest.TestCase):
    def test_the_bound(self):
        check_same(self, MAX_CELLS, 20000)

    def test_16_2_sure_boxes(self):
        for tree, class_ in sample(601, 60) + [(tree, (0,) * tree.size) for tree in wild_trees() if determinant_of(tree) <= 400]:
            low, high = quiet_by_steps(tree, class_), far_by_steps(tree, class_)
            check_same(self, sure_box(tree, class_), (low, high))
            self.assertTrue(all(x <= y for x, y in zip(low, high)))

    def test_sure_boxes_where_places_were_put_up(self):
        source = random.Random(602)
        for tree, _ in sample(603, 20, 0) + [(tree, None) for tree in wild_trees()[:8] if determinant_of(tree) <= 400]:
            tree = put_up_often(source, tree, source.randint(1, 6))
            for class_ in some_classes(source, tree, 2, classes_of(tree)):
                check_same(self, sure_box(tree, class_), (quiet_by_steps(tree, class_), far_by_steps(tree, class_)))

    def test_sure_boxes_of_large_trees(self):
        check_same(self, sure_box(made_line((2,) * 40), (0,) * 40), ((0,) * 40,) * 2)
        tower = Tree.line((3, 1))
        for _ in range(38):
            tower = put_at_tie(tower, *tower.ties[-1])
        for class_ in classes_of(tower):
            low, high = sure_box(tower, class_)
            boxed = presses_of_boxed_row(tower, class_)
            presses = sum_of_rows(boxed, [press for press, _ in tower.press(low)])
            self.assertTrue(max(presses) <= 0)
            presses = sum_of_rows(boxed, [press for press, _ in tower.press(high)])
            self.assertTrue(all(press <= 2 - number for press, number in zip(presses, tower)))
        self.assertEqual(sure_box(STEEP, (0,) * 5), (quiet_by_steps(STEEP, (0,) * 5), far_by_steps(STEEP, (0,) * 5)))
        steep = made_star(1, (2, 3, 7, 43, 1807, 3263443))
        low, high = sure_box(steep, (0,) * 7)
        self.assertEqual(low, (0,) * 7)
        self.assertTrue(all(press[0] <= 2 - number for press, number in zip(steep.press(high), steep)))


class Sums(unittest.TestCase):
    def test_16_1_signed_sums_of_any_box(self):
        source = random.Random(604)
        for tree, class_ in sample(605, 30, 1, range(1, 5)):
            low = tuple(source.randint(-4, 4) for _ in tree)
            high = tuple(x + source.randint(0, 2) for x in low)
            check_same(self, box_count(tree, class_, low, high), signed_sum(cells_by_words(tree, class_, low, high)))
            check_same(self, box_count(tree, class_, low, low), -worth_in_by_numbers(tree, class_, low))

    def test_16_3_boxes_with_the_sure_box_within_them(self):
        source = random.Random(606)
        compared = 0
        for tree, class_ in sample(607, 40, 2, range(1, 5)):
            low, high = sure_box(tree, class_)
            found = class_count(tree, class_)
            check_same(self, found, box_count(tree, class_, low, high))
            for _ in range(3):
                less = tuple(x - source.randint(0, 2) for x in low)
                more = tuple(x + source.randint(0, 2) for x in high)
                if number_of_cells(less, more) <= 20000:
                    check_same(self, box_count(tree, class_, less, more), found)
                    compared += 1
        self.assertGreater(compared, 100)

    def test_just_20000_cells_and_more(self):
        # The worth of a row of the lone place with 2 in the class 0 is the square of its entry.
        check_same(self, box_count(TWO, (0,), (0,), (9999,)), 0)
        check_error(self, TooMany, 20000, box_count, TWO, (0,), (0,), (10000,))
        check_error(self, TooMany, 20000, box_count, TWO, (0,), (-BIG,), (BIG,))
        check_same(self, box_count(made_line((2,) * 9), (0,) * 9, (0,) * 9, (1,) * 9), 0)
        check_error(self, TooMany, 20000, box_count, made_line((2,) * 10), (0,) * 10, (0,) * 10, (1,) * 10)
        # 99 times 201 is 19,899 and 101 times 199 is 20,099.
        check_same(self, box_count(LINE, (0, 0), (0, 0), (49, 100)), 0)
        check_error(self, TooMany, 20000, box_count, LINE, (0, 0), (0, 0), (50, 99))
        check_same(self, box_count(made_line((2,) * 40), (0,) * 40, (0,) * 40, (1,) * 9 + (0,) * 31), 0)

    def test_boxes_far_away(self):
        check_same(self, box_count(TWO, (0,), (BIG,), (BIG,)), -BIG * BIG)
        check_same(self, box_count(TWO, (0,), (BIG - 1,), (BIG,)), -(BIG - 1) ** 2)
        check_same(self, box_count(TWO, (0,), (-BIG,), (-BIG + 3,)), -(BIG - 3) ** 2)

    def test_more_than_20000_cells_in_the_sure_box(self):
        low, high = sure_box(STEEP, (0,) * 5)
        self.assertGreater(number_of_cells(low, high), 20000)
        check_error(self, TooMany, 20000, class_count, STEEP, (0,) * 5)
        check_error(self, TooMany, 20000, euler_numbers, STEEP, (0,) * 5, -1000)
        # The greatest sure boxes that are told here, and those just above.
        cells = {}
        for legs in itertools.combinations_with_replacement(range(2, 9), 3):
            for more in range(1, 5):
                tree = made_star(1, legs[:2] + (legs[2] + more,))
                if 0 < determinant_of(tree) <= 400 and tree[0] == 1:
                    zero = (0,) * 4
                    try:
                        cells[tree.numbers] = (number_of_cells(*sure_box(tree, zero)), zero)
                    except Refused:
                        continue
        for numbers, (many, zero) in cells.items():
            tree = made_star(numbers[0], numbers[1:])
            if many > 20000:
                check_error(self, TooMany, 20000, class_count, tree, zero)
            else:
                self.assertEqual(class_count(tree, zero), -euler_numbers(tree, zero, 0)[0] + sum(many - 1 for many in euler_numbers(tree, zero, 1000)[1]))


class EulerNumbers(unittest.TestCase):
    def test_16_4_level_by_level(self):
        for tree, class_ in sample(608, 40, 2, range(1, 5)):
            low, high = sure_box(tree, class_)
            if number_of_cells(low, high) > 3000:
                continue
            cells = cells_by_words(tree, class_, low, high)
            least = min(worth for worth, _ in cells)
            for level in (least - 1, least, least + 1, 6):
                expected = tuple(euler(cells, at) for at in range(least, level + 1))
                check_same(self, euler_numbers(tree, class_, level), (least, expected))
            numbers = euler_numbers(tree, class_, 1000)[1]
            self.assertEqual((len(numbers), numbers[-1]), (1001 - least, 1))
            check_same(self, class_count(tree, class_), -least + sum(number - 1 for number in numbers))

    def test_the_least_worth_is_that_of_all_rows(self):
        compared = 0
        for tree, class_ in sample(609, 40):
            try:
                low = least_level(tree, class_)
            except TooMany:
                continue
            check_same(self, euler_numbers(tree, class_, -1000), (low, ()))
            compared += 1
        self.assertGreater(compared, 60)

    def test_greater_boxes_tell_the_same_numbers(self):
        for tree, class_ in sample(610, 15, 1, range(1, 4)):
            low, high = sure_box(tree, class_)
            less, more = tuple(x - 1 for x in low), tuple(x + 1 for x in high)
            if number_of_cells(less, more) <= 3000:
                cells = cells_by_words(tree, class_, less, more)
                least, numbers = euler_numbers(tree, class_, 5)
                self.assertEqual(numbers, tuple(euler(cells, level) for level in range(least, 6)))

    def test_levels(self):
        check_same(self, euler_numbers(SEVEN, ZERO, -1), (0, ()))
        check_same(self, euler_numbers(SEVEN, ZERO, 0), (0, (2,)))
        check_same(self, euler_numbers(SEVEN, ZERO, 1000), (0, (2,) + (1,) * 1000))
        check_same(self, euler_numbers(ONE, (0,), -1000), (0, ()))
        for value in odd_values():
            if type(value) is not int or not -1000 <= value <= 1000:
                check_error(self, InvalidNumber, value, euler_numbers, SEVEN, ZERO, value)
                # It comes ahead of too many cells.
                check_error(self, InvalidNumber, value, euler_numbers, STEEP, (0,) * 5, value)
        for value in (-1001, 1001, TOO_BIG):
            check_error(self, InvalidNumber, value, euler_numbers, SEVEN, ZERO, value)


class Counts(unittest.TestCase):
    def test_16_5_tame_trees(self):
        for tree, class_ in sample(611, 60, 2, range(1, 8)):
            if is_tame(tree):
                low, numbers = euler_numbers(tree, class_, 3)
                self.assertEqual(set(numbers), {1})
                self.assertEqual(class_count(tree, class_), -low)

    def test_16_5_opposite_classes(self):
        for tree, class_ in sample(612, 40, 2):
            boxed = row_by_presses(tree, presses_of_boxed_row(tree, class_))
            moved = tuple(pair(-x - y) for x, y in zip(k_by_elimination(tree), boxed))
            other = class_of(tree, moved)
            other_boxed = [part - part.__floor__() for part in fractions_of(moved)]
            try:
                counts = class_count(tree, class_), class_count(tree, other)
            except TooMany:
                continue
            self.assertEqual(counts[0] - worth_by_k(tree, boxed), counts[1] - worth_by_k(tree, other_boxed))

    def test_counts_of_large_trees(self):
        line = made_line((2,) * 40)
        for class_ in classes_of(line)[:5]:
            self.assertEqual(class_count(line, class_), near_count(line, 7, class_))
        tree = put_up_often(random.Random(613), SEVEN, 8)
        try:
            self.assertEqual(class_count(tree, (0,) * 12), 1)
        except TooMany as error:
            self.assertEqual(error.limit, 20000)


class Errors(unittest.TestCase):
    def calls(self, tree, *more):
        yield sure_box, (tree,) + more[:1]
        yield box_count, (tree,) + more[:3]
        yield class_count, (tree,) + more[:1]
        yield euler_numbers, (tree, more[0], "level")

    def test_trees_and_classes(self):
        for value in odd_values():
            if not isinstance(value, Tree):
                for call, values in self.calls(value, value, value, value):
                    check_error(self, InvalidTree, NO_VALUE, call, *values)
        for tree, kind, kept in ((BARRED, Refused, ("bar",)), (Tree((0,), ()), Refused, ("bar",)), (OVER, TooMany, 400), (made_tree((401,), ()), TooMany, 400)):
            for call, values in self.calls(tree, None, None, None):
                check_error(self, kind, kept, call, *values)
        for class_ in (None, (3,), (0, 0), [0], (False,), (-1,), (LONG,), "0", ((0, 1),), THREE):
            for call, values in self.calls(THREE, class_, None, None):
                check_error(self, InvalidClass, NO_VALUE, call, *values)

    def test_rows_of_boxes(self):
        for value in (None, (), (0, 0), [0], (True,), ((1, 2),), (TOO_BIG,), (LONG,), "0", 0, THREE):
            check_error(self, InvalidRow, NO_VALUE, box_count, THREE, (0,), value, value)
            check_error(self, InvalidRow, NO_VALUE, box_count, THREE, (0,), (5,), value)
            check_error(self, InvalidRow, NO_VALUE, box_count, THREE, (0,), value, (5,))

    def test_errors_that_come_last(self):
        check_error(self, InvalidOperation, NO_VALUE, box_count, THREE, (0,), (1,), (0,))
        check_error(self, InvalidOperation, NO_VALUE, box_count, LINE, (0, 0), (1, 0), (0, 10 ** 9))
        check_error(self, InvalidOperation, NO_VALUE, box_count, LINE, (0, 0), (0, 1), (10 ** 9, 0))
        check_error(self, TooMany, 20000, box_count, LINE, (0, 0), (0, 0), (10 ** 9, 0))


class NotTrue(unittest.TestCase):
    def test_16_6(self):
        self.assertEqual((box_count(SEVEN, ZERO, ZERO, (1, 1, 1, 1)), class_count(SEVEN, ZERO)), (0, 1))
        self.assertIs(is_tame(THIRD), False)
        self.assertTrue(any(set(euler_numbers(THIRD, class_, 9)[1]) == {1} for class_ in classes_of(THIRD)))
        self.assertEqual(euler_numbers(THIRD, (1, 4, 5, 6), 9)[1], (1,) * 11)
        self.assertEqual(class_count(THIRD, (1, 4, 5, 6)), 1)


if __name__ == "__main__":
    unittest.main()
