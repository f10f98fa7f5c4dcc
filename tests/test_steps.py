"""Stage 8: [8.1] to [8.6], with [0.3] to [0.7], for tametrees.rows.steps."""

import itertools
import random
import unittest
from fractions import Fraction

from tametrees.errors import InvalidRow, InvalidTree, Refused, TooMany
from tametrees.rows.steps import MOST_STEPS, is_quiet, is_steps, least_cycle, quiet_above, steps_above
from tametrees.rows.tame import multiplicity
from tametrees.trees.trees import Tree
from tests.helpers import (
    BIG, LONG, NO_VALUE, TOO_BIG, check_error, check_same, definite_trees, fractions_of, is_at_or_above, made_line, made_star,
    odd_values, pair, press_by_ties, put_up_often, put_up_to_sum, units, wild_trees,
)

ONE, LINE, SEVEN = Tree((1,), ()), Tree.line((2, 2)), Tree((1, 2, 3, 7), ((0, 1), (0, 2), (0, 3)))
BARRED = Tree.line((1, 1))
CALLS = (is_quiet, quiet_above, steps_above)
NO_ROWS = ((), (1,), (1, 2, 3), [1, 2], (1, True), (1, None), (1, "2"), (1, (2, 4)), (1, (1, 0)), (1, (1, -2)), (1, [1, 2]), (1, TOO_BIG), (LONG, 1),
           ((1, TOO_BIG), 1), "12", None, True, 12, {0: 1, 1: 2}, LINE)


def many_trees():
    return definite_trees(81, 30, range(1, 7), 1, 4) + wild_trees() + [ONE, LINE, SEVEN]


def small_rows(source, tree):
    """Rows of integers and of fractions, and bounds."""
    for _ in range(3):
        whole = tuple(source.randint(-4, 4) for _ in tree)
        mixed = tuple(source.choice((entry, pair(Fraction(source.randint(-9, 9), source.randint(2, 5))))) for entry in whole)
        mixed = tuple(entry[0] if isinstance(entry, tuple) and entry[1] == 1 else entry for entry in mixed)
        for row in (whole, mixed):
            yield row, None
            yield row, tuple(source.randint(-3, 3) for _ in tree)


def keeps(tree, row, bounds):
    return all(press <= bound for press, bound in zip(press_by_ties(tree, row), bounds or (0,) * tree.size))


def steps_in_any_sequence(source, tree, row, bounds):
    """Steps of [8.2], one by one, each at a place that the source chooses."""
    row, places = fractions_of(row), []
    while not keeps(tree, row, bounds):
        presses = press_by_ties(tree, row)
        places.append(source.choice([at for at in range(tree.size) if presses[at] > (bounds or (0,) * tree.size)[at]]))
        row[places[-1]] += 1
    return row, tuple(places)


class Ends(unittest.TestCase):
    def test_the_bound(self):
        check_same(self, MOST_STEPS, 10000)

    def test_8_1_rows_that_keep_bounds(self):
        source = random.Random(82)
        for tree in many_trees():
            for row, bounds in small_rows(source, tree):
                self.assertIs(is_quiet(tree, row, bounds=bounds), keeps(tree, fractions_of(row), bounds))
            row = tuple(source.randint(-4, 4) for _ in tree)
            presses = press_by_ties(tree, row)
            self.assertIs(is_quiet(tree, row, bounds=tuple(presses)), True)
            for place in range(tree.size):
                lower = tuple(press - (at == place) for at, press in enumerate(presses))
                self.assertIs(is_quiet(tree, row, bounds=lower), False)

    def test_fractions_beside_bounds(self):
        for entry, bound, right in (((-1, 3), 1, True), ((-1, 3), 0, False), ((1, 3), -1, True), ((1, 3), -2, True), ((1, 3), -3, False), ((-2, 3), 2, True), ((-2, 3), 1, False)):
            self.assertIs(is_quiet(Tree((3,), ()), (entry,), bounds=(bound,)), keeps(Tree((3,), ()), [Fraction(*entry)], (bound,)))
        check_same(self, quiet_above(Tree((3,), ()), ((1, 3),), bounds=(-2,)), ((4, 3),))
        check_same(self, quiet_above(Tree((3,), ()), ((-1, 7),)), ((6, 7),))
        check_same(self, is_quiet(Tree((3,), ()), ((1, 3),), bounds=(-1,)), True)
        check_same(self, is_quiet(Tree((3,), ()), ((1, 3),), bounds=(-2,)), False)

    def test_8_2_all_sequences_end_at_one_row(self):
        source = random.Random(83)
        for tree in many_trees():
            for row, bounds in small_rows(source, tree):
                end, places = steps_in_any_sequence(source, tree, row, bounds)
                check_same(self, quiet_above(tree, row, bounds=bounds), tuple(pair(Fraction(entry)) for entry in end))
                found = steps_above(tree, row, bounds=bounds)
                self.assertEqual((type(found), sorted(found)), (tuple, sorted(places)))
                self.assertIs(is_steps(tree, row, found, bounds=bounds), True)
                self.assertIs(is_steps(tree, row, places, bounds=bounds), True)
                self.assertIs(is_quiet(tree, quiet_above(tree, row, bounds=bounds), bounds=bounds), True)

    def test_8_2_the_end_is_the_least_row_above(self):
        source = random.Random(84)
        for tree in definite_trees(85, 30, (1, 2, 3), 1, 4):
            for row, bounds in small_rows(source, tree):
                end = fractions_of(quiet_above(tree, row, bounds=bounds))
                start = fractions_of(row)
                for more in itertools.product(range(7), repeat=tree.size):
                    other = [entry + step for entry, step in zip(start, more)]
                    if keeps(tree, other, bounds):
                        self.assertTrue(is_at_or_above(other, end))

    def test_8_3_lesser_entries_keep_bounds(self):
        for tree in definite_trees(86, 15, (1, 2, 3), 1, 3):
            rows = [row for row in itertools.product(range(-2, 4), repeat=tree.size)]
            for bounds in ((0,) * tree.size, (1,) + (-1,) * (tree.size - 1)):
                right = [row for row in rows if is_quiet(tree, row, bounds=bounds)]
                for one, other in itertools.product(right[:30], right[-30:]):
                    self.assertIs(is_quiet(tree, tuple(map(min, one, other)), bounds=bounds), True)
            for row in rows:
                if is_quiet(tree, row):
                    self.assertGreaterEqual(min(row), 0)
                    self.assertTrue(not any(row) or min(row) >= 1)

    def test_8_5_lower_bounds_end_above(self):
        source = random.Random(87)
        for tree in many_trees():
            row = tuple(source.randint(-3, 3) for _ in tree)
            bounds = tuple(source.randint(-2, 2) for _ in tree)
            lower = tuple(bound - source.randint(0, 2) for bound in bounds)
            end, lower_end = quiet_above(tree, row, bounds=bounds), quiet_above(tree, row, bounds=lower)
            self.assertTrue(is_at_or_above(fractions_of(lower_end), fractions_of(end)))
            check_same(self, quiet_above(tree, tuple(top for top, _ in end), bounds=lower), lower_end)
            first = steps_above(tree, row, bounds=bounds)
            second = steps_above(tree, tuple(top for top, _ in end), bounds=lower)
            self.assertIs(is_steps(tree, row, first + second, bounds=lower), True)

    def test_rows_that_keep_bounds_need_no_steps(self):
        for tree in many_trees() + [made_line((2,) * 40), made_star(40, (1,) * 39)]:
            zero = (0,) * tree.size
            check_same(self, (steps_above(tree, zero), is_quiet(tree, zero), is_steps(tree, zero, ())), ((), True, True))
            check_same(self, quiet_above(tree, zero), ((0, 1),) * tree.size)
            check_same(self, quiet_above(tree, zero, bounds=(BIG,) * tree.size), ((0, 1),) * tree.size)

    def test_none_and_0_are_the_same_bounds(self):
        for tree in many_trees():
            for row in units(tree):
                check_same(self, steps_above(tree, row, bounds=None), steps_above(tree, row))
                check_same(self, steps_above(tree, row, bounds=(0,) * tree.size), steps_above(tree, row))
                check_same(self, quiet_above(tree, row, bounds=(0,) * tree.size), quiet_above(tree, row))

    def test_large_trees(self):
        source = random.Random(88)
        for tree in (made_line((2,) * 40), made_star(40, (1,) * 39), made_star(41, (1,) * 39), made_line((LONG,) * 40)):
            for row in ((1,) + (0,) * 39, tuple(source.randint(-2, 2) for _ in tree), ((-1, 7),) + (1,) * 39):
                end, places = steps_in_any_sequence(source, tree, row, None)
                check_same(self, quiet_above(tree, row), tuple(pair(Fraction(entry)) for entry in end))
                self.assertIs(is_steps(tree, row, places), True)
                self.assertEqual(len(steps_above(tree, row)), len(places))


class Bounds(unittest.TestCase):
    def test_just_10000_steps_and_one_more(self):
        check_same(self, quiet_above(ONE, (-10000,)), ((0, 1),))
        check_same(self, steps_above(ONE, (-10000,)), (0,) * 10000)
        check_same(self, quiet_above(ONE, ((-19999, 2),)), ((1, 2),))
        check_same(self, quiet_above(ONE, (0,), bounds=(-10000,)), ((10000, 1),))
        for call in (quiet_above, steps_above):
            for row, bounds in (((-10001,), None), ((0,), (-10001,)), ((-BIG,), None), ((0,), (-BIG,)), ((-10000,), (-1,)), (((-20001, 2),), None)):
                check_error(self, TooMany, 10000, call, ONE, row, bounds=bounds)
            check_error(self, TooMany, 10000, call, LINE, (BIG, -BIG))
        check_same(self, len(steps_above(LINE, (0, 0), bounds=(-5000, -5000))), 10000)
        check_error(self, TooMany, 10000, steps_above, LINE, (0, 0), bounds=(-5000, -5001))
        check_same(self, quiet_above(LINE, (0, BIG), bounds=(BIG, 0)), ((0, 1), (BIG, 1)))

    def test_more_steps_are_judged_all_the_same(self):
        self.assertIs(is_steps(ONE, (-10000,), (0,) * 10000), True)
        self.assertIs(is_steps(ONE, (-10000,), (0,) * 9999), False)
        self.assertIs(is_steps(ONE, (-10000,), (0,) * 10001), False)
        self.assertIs(is_steps(ONE, (-10001,), (0,) * 10001), True)
        self.assertIs(is_steps(ONE, (-10001,), (0,) * 10000), False)
        self.assertIs(is_steps(ONE, (-BIG,), (0,) * 10000), False)

    def test_least_cycles_of_10001_and_more(self):
        # Rows go on to trees that are put up, and so does the least cycle of the lone place with 1.
        for total in (5000, 10001):
            tree, row = put_up_to_sum(total, 0)
            check_same(self, least_cycle(tree), row)
            self.assertEqual(sum(row), total)
            check_same(self, multiplicity(tree), 1)
        for total in (10002, 20000, 10 ** 7):
            tree, _ = put_up_to_sum(total, 0)
            check_error(self, TooMany, 10000, least_cycle, tree)
            check_error(self, TooMany, 10000, multiplicity, tree)


class Judged(unittest.TestCase):
    def test_8_2_every_sequence_of_steps_is_accepted_and_nothing_else(self):
        source = random.Random(89)
        for tree in definite_trees(90, 12, (1, 2, 3), 1, 3) + [Tree.star(2, ((2,), (2,), (2,)))]:
            for row, bounds in list(small_rows(source, tree))[:4]:
                for length in range(5):
                    for places in itertools.product(range(-1, tree.size + 1), repeat=length):
                        self.assertIs(is_steps(tree, row, places, bounds=bounds), are_steps_by_words(tree, row, places, bounds))

    def test_steps_near_right_ones(self):
        row, right = (1, 0, 0, 0), steps_above(SEVEN, (1, 0, 0, 0))
        self.assertIs(is_steps(SEVEN, row, right), True)
        for value in (list(right), right[1:], right[:-1], right + (0,), right + (1,), (True,) + right[1:], right[:3] + (None,) + right[4:], right[:3] + (4,) + right[4:],
                      right[:3] + (-1,) + right[4:], (right,), right[::-1][:2], dict(enumerate(right)), "123", right + (LONG,), (BIG,) + right):
            with self.subTest(repr(value)):
                self.assertIs(is_steps(SEVEN, row, value), are_steps_by_words(SEVEN, row, value, None))
        self.assertIs(is_steps(LINE, (0, 1), (False,)), False)
        self.assertIs(is_steps(LINE, (0, 1), (0,)), True)

    def test_odd_values_are_judged(self):
        for value in odd_values():
            self.assertIs(is_steps(LINE, (1, 0), value), type(value) is tuple and value == (1,) and type(value[0]) is int)
            self.assertIs(is_steps(LINE, (1, 1), value), value == () and type(value) is tuple)
            self.assertIs(type(is_steps(LINE, (1, 0), (value,))), bool)
            self.assertIs(type(is_steps(LINE, (1, 0), (1, value), bounds=(-3, 0))), bool)

    def test_the_value_is_judged_behind_the_other_arguments(self):
        for value in odd_values():
            if not isinstance(value, Tree):
                check_error(self, InvalidTree, NO_VALUE, is_steps, value, (1, 0), value)
            check_error(self, InvalidRow, NO_VALUE, is_steps, LINE, (1,), value)
            if value is not None and value not in ((0, 1), (1, 2), (2, 4), (1, 0), (1, -2), (1, BIG)):
                check_error(self, InvalidRow, NO_VALUE, is_steps, LINE, (1, 0), (1,), bounds=value)


def are_steps_by_words(tree, row, places, bounds):
    if type(places) is not tuple:
        return False
    row = fractions_of(row)
    for place in places:
        if type(place) is not int or not 0 <= place < tree.size:
            return False
        if press_by_ties(tree, row)[place] <= (bounds or (0,) * tree.size)[place]:
            return False
        row[place] += 1
    return keeps(tree, row, bounds)


class Cycles(unittest.TestCase):
    def test_8_4_z_is_the_least_quiet_row(self):
        for tree in definite_trees(91, 40, (1, 2, 3, 4), 1, 4):
            found = least_cycle(tree)
            self.assertTrue(type(found) is tuple and all(type(entry) is int for entry in found) and min(found) >= 1)
            self.assertIs(is_quiet(tree, found), True)
            for row in itertools.product(range(max(found) + 2), repeat=tree.size):
                if any(row) and all(press <= 0 for press in press_by_ties(tree, row)):
                    self.assertTrue(is_at_or_above(row, found))

    def test_8_4_steps_from_each_unit_row_end_at_z(self):
        source = random.Random(92)
        for tree in many_trees() + [put_up_often(source, tree, 3) for tree in many_trees()[::4]]:
            found = least_cycle(tree)
            for row in units(tree):
                check_same(self, quiet_above(tree, row), tuple((entry, 1) for entry in found))
                self.assertEqual(len(steps_above(tree, row)), sum(found) - 1)

    def test_8_4_greater_numbers_and_parts_have_no_greater_entries(self):
        for tree in many_trees():
            found = least_cycle(tree)
            for place in range(tree.size):
                self.assertTrue(is_at_or_above(found, least_cycle(tree.with_number(place, min(60, tree[place] + 1)))))
                if tree.degrees[place] == 1:
                    kept = tuple(other for other in range(tree.size) if other != place)
                    self.assertTrue(is_at_or_above([found[other] for other in kept], least_cycle(tree.part(kept))))

    def test_large_trees(self):
        check_same(self, least_cycle(made_line((2,) * 40)), (1,) * 40)
        check_same(self, least_cycle(made_star(40, (1,) * 39)), (1,) * 40)
        check_same(self, least_cycle(made_line((LONG,) * 40)), (1,) * 40)
        check_same(self, least_cycle(ONE), (1,))


class Errors(unittest.TestCase):
    def test_no_trees(self):
        for value in odd_values():
            if not isinstance(value, Tree):
                check_error(self, InvalidTree, NO_VALUE, least_cycle, value)
                for call in CALLS:
                    check_error(self, InvalidTree, NO_VALUE, call, value, (1, 0))
                    check_error(self, InvalidTree, NO_VALUE, call, value, None, bounds=3)

    def test_trees_that_are_not_definite(self):
        for tree in (BARRED, Tree((0,), ()), Tree((2,) * 5, ((0, 1), (0, 2), (0, 3), (0, 4))), made_star(39, (1,) * 39)):
            check_error(self, Refused, ("bar",), least_cycle, tree)
            for call in CALLS:
                check_error(self, Refused, ("bar",), call, tree, (0,) * tree.size)
                check_error(self, Refused, ("bar",), call, tree, None, bounds=3)
            check_error(self, Refused, ("bar",), is_steps, tree, None, None, bounds=3)

    def test_rows_and_bounds_of_wrong_form(self):
        for value in NO_ROWS:
            with self.subTest(repr(value)):
                for call in CALLS:
                    check_error(self, InvalidRow, NO_VALUE, call, LINE, value)
                    check_error(self, InvalidRow, NO_VALUE, call, LINE, value, bounds=value)
                    if value is not None:
                        check_error(self, InvalidRow, NO_VALUE, call, LINE, (-BIG, 0), bounds=value)
        for call in CALLS:
            for bounds in (((1, 2), 0), ((1, 1), 0), (0, False)):
                check_error(self, InvalidRow, NO_VALUE, call, LINE, (-BIG, 0), bounds=bounds)

    def test_bounds_are_passed_by_keyword(self):
        for call in CALLS:
            with self.assertRaises(TypeError):
                call(LINE, (1, 0), (0, 0))


class NotTrue(unittest.TestCase):
    def test_8_6(self):
        self.assertEqual(least_cycle(SEVEN), (6, 3, 2, 1))
        line = Tree.line((2, 2, 2))
        self.assertIn(0, press_by_ties(line, least_cycle(line)))
        one = fractions_of(quiet_above(LINE, (1, 0)))
        self.assertNotEqual(fractions_of(quiet_above(LINE, (1, 1))), [2 * entry for entry in one])


if __name__ == "__main__":
    unittest.main()
