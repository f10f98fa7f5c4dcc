"""Stage 10: [10.1] to [10.6], with [0.4] and [0.7], for tametrees.rows.twos."""

import itertools
import math
import unittest

from tametrees.errors import InvalidTree, Refused
from tametrees.rows.steps import least_cycle
from tametrees.rows.tame import is_tame
from tametrees.rows.twos import greatest_two, two_count, two_heights, two_rows, twos_kind
from tametrees.trees.definite import determinant_of, is_definite
from tametrees.trees.trees import Tree, are_alike, made_tree, renamed
from tests.helpers import (
    LONG, NO_VALUE, check_error, check_same, is_at_or_above, made_line, odd_values, press_by_ties, product_by_ties, random_trees, tie_sets,
    units,
)

CALLS = (two_rows, two_count, greatest_two, two_heights)
ONE = Tree((2,), ())


def legs(*lengths):
    """A place with legs of these lengths, all numbers 2."""
    ties, size = [], 1
    for length in lengths:
        ties.append((0, size))
        ties.extend((place, place + 1) for place in range(size, size + length - 1))
        size += length
    return made_tree((2,) * size, tuple(sorted(ties)))


def line(size):
    return made_line((2,) * size)


KINDS = (
    [(line(size), "line", size + 1, size * (size + 1)) for size in range(1, 13)]
    + [(legs(1, 1, size - 3), "fork", 4, 2 * size * (size - 1)) for size in range(4, 13)]
    + [(legs(1, 2, 2), "legs", 3, 72), (legs(1, 2, 3), "legs", 2, 126), (legs(1, 2, 4), "legs", 1, 240)]
)
# Each of them is just beside one of the kinds.
BESIDE = [
    legs(1, 1, 1, 1), legs(2, 2, 2), legs(1, 3, 3), legs(1, 2, 5), legs(1, 2, 6), legs(1, 3, 4), legs(2, 2, 3), legs(1, 1, 1, 2), legs(1, 1, 1, 1, 1),
    Tree((2,) * 6, ((0, 1), (0, 2), (0, 3), (3, 4), (3, 5))), Tree((2,) * 7, ((0, 1), (0, 2), (0, 3), (3, 4), (4, 5), (4, 6))),
    legs(3, 3, 3),
]


def named(tree, step):
    """The same tree under other names."""
    return renamed(tree, tuple((place * step + 1) % tree.size for place in range(tree.size)))


class Kinds(unittest.TestCase):
    def test_10_2_the_kinds(self):
        for tree, word, whole, _ in KINDS:
            check_same(self, twos_kind(tree), (word, tree.size))
            self.assertEqual((determinant_of(tree), is_definite(tree)), (whole, True))
            for step in (step for step in (1, 2, 3, 5, 7) if math.gcd(step, tree.size) == 1):
                check_same(self, twos_kind(named(tree, step)), (word, tree.size))

    def test_trees_just_beside_the_kinds(self):
        for tree in BESIDE:
            self.assertIs(is_definite(tree), False)
            check_same(self, twos_kind(tree), None)

    def test_all_small_two_trees(self):
        for size in range(1, 7):
            for ties in tie_sets(size):
                tree = Tree((2,) * size, ties)
                alike = [word for other, word, _, _ in KINDS if other.size == size and are_alike(tree, other)]
                self.assertEqual(len(alike), int(is_definite(tree)))
                check_same(self, twos_kind(tree), (alike[0], size) if alike else None)

    def test_larger_two_trees(self):
        for tree in random_trees(104, 200, range(7, 13), 2, 2) + [line(40), legs(1, 1, 37), legs(1, 2, 37), legs(13, 13, 13), legs(*(1,) * 39)]:
            kind = twos_kind(tree)
            self.assertEqual(kind is None, not is_definite(tree))
        check_same(self, [twos_kind(tree) for tree in (line(40), legs(1, 1, 37), legs(1, 2, 37))], [("line", 40), ("fork", 40), None])


class Rows(unittest.TestCase):
    def test_two_rows_of_small_trees(self):
        for tree, word, _, many in KINDS:
            if tree.size <= 6:
                most = max(greatest_two(tree))
                expected = [row for row in itertools.product(range(-most - (tree.size < 5), most + 1 + (tree.size < 5)), repeat=tree.size)
                            if product_by_ties(tree, row, row) == -2]
                check_same(self, two_rows(tree), tuple(expected))
                self.assertEqual(len(expected), many)

    def test_10_4_numbers_and_the_greatest_row(self):
        for tree, _, _, many in KINDS:
            rows = two_rows(tree)
            check_same(self, (two_count(tree), len(rows)), (many, many))
            self.assertTrue(all(one < other for one, other in zip(rows, rows[1:])))
            most = greatest_two(tree)
            check_same(self, most, least_cycle(tree))
            self.assertIn(most, rows)
            self.assertTrue(all(is_at_or_above(most, row) for row in rows))
            self.assertEqual(many, tree.size * (sum(most) + 1))
            self.assertIs(is_tame(tree), True)

    def test_10_1_and_10_3_what_two_rows_are(self):
        for tree, _, _, _ in KINDS:
            rows = two_rows(tree)
            held = set(rows)
            for row in rows:
                self.assertEqual(product_by_ties(tree, row, row), -2)
                self.assertTrue(min(row) >= 0 or max(row) <= 0)
                self.assertIn(tuple(-entry for entry in row), held)
                for place, press in enumerate(press_by_ties(tree, row)):
                    if press == 1:
                        self.assertIn(row[:place] + (row[place] + 1,) + row[place + 1:], held)
            for one, other in itertools.product(rows[::1 + len(rows) // 24], repeat=2):
                product = product_by_ties(tree, one, other)
                self.assertIn(tuple(y + product * x for x, y in zip(one, other)), held)
                if one != other and any(x + y for x, y in zip(one, other)):
                    self.assertIn(product, (-1, 0, 1))

    def test_10_5_heights(self):
        for tree, _, _, many in KINDS:
            found = two_heights(tree)
            self.assertEqual((type(found), len(found), found[0], found[-1]), (tuple, sum(greatest_two(tree)), tree.size, 1))
            self.assertEqual(2 * sum(found), many)
            counts = [0] * (len(found) + 1)
            for row in two_rows(tree):
                counts[max(0, sum(row))] += 1
            check_same(self, found, tuple(counts[1:]))
            falls = [number - more for number, more in zip(found, found[1:] + (0,))]
            self.assertTrue(min(falls) >= 0 and falls == falls[::-1])

    def test_names_do_not_matter(self):
        for tree, _, _, many in KINDS[::2]:
            for step in (step for step in (2, 3, 5, 7) if math.gcd(step, tree.size) == 1):
                other = named(tree, step)
                order = [(place * step + 1) % tree.size for place in range(tree.size)]
                moved = sorted(tuple(row[order.index(place)] for place in range(tree.size)) for row in two_rows(tree))
                check_same(self, two_rows(other), tuple(moved))
                check_same(self, (two_count(other), two_heights(other)), (many, two_heights(tree)))

    def test_forty_places(self):
        for tree, many in ((line(40), 1640), (legs(1, 1, 37), 3120)):
            rows = two_rows(tree)
            check_same(self, (two_count(tree), len(rows), len(set(rows))), (many, many, many))
            self.assertTrue(all(product_by_ties(tree, row, row) == -2 for row in rows[::50]))
            self.assertEqual(2 * sum(two_heights(tree)), many)
            self.assertIn(greatest_two(tree), rows)

    def test_lone_places(self):
        check_same(self, (two_rows(ONE), two_count(ONE), greatest_two(ONE), two_heights(ONE)), (((-1,), (1,)), 2, (1,), (1,)))
        self.assertEqual(units(ONE), [(1,)])


class Errors(unittest.TestCase):
    def test_no_trees(self):
        for value in odd_values():
            if not isinstance(value, Tree):
                for call in CALLS + (twos_kind,):
                    check_error(self, InvalidTree, NO_VALUE, call, value)

    def test_the_least_place_whose_number_is_not_2(self):
        for tree, place in ((Tree((3,), ()), 0), (Tree((0,), ()), 0), (Tree((2, 3, 1), ((0, 1), (0, 2))), 1), (Tree.line((2, 2, 2, 1)), 3), (Tree.line((1, 1)), 0),
                            (Tree.star(2, ((2,), (2,), (2,), (2,), (60,))), 5), (made_line((2,) * 39 + (LONG,)), 39), (made_line((LONG,) * 40), 0)):
            for call in CALLS + (twos_kind,):
                check_error(self, Refused, ("number", place), call, tree)

    def test_trees_that_are_not_definite(self):
        for tree in BESIDE + [legs(1, 2, 37), legs(13, 13, 13)]:
            for call in CALLS:
                check_error(self, Refused, ("bar",), call, tree)


class NotTrue(unittest.TestCase):
    def test_10_6(self):
        self.assertIsNone(twos_kind(legs(2, 2, 2)))
        self.assertEqual(max(greatest_two(legs(1, 2, 4))), 6)
        self.assertEqual((two_count(line(8)), two_count(legs(1, 2, 2))), (72, 72))
        self.assertIs(are_alike(line(8), legs(1, 2, 2)), False)


if __name__ == "__main__":
    unittest.main()
