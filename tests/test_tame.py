"""Stage 9: [9.1] to [9.7], with [0.4] to [0.7], [0.14], [0.15] and [0.18], for tametrees.rows.tame."""

import itertools
import math
import random
import unittest

from tametrees.errors import InvalidRow, InvalidTree, Refused
from tametrees.rows.depth import k_row
from tametrees.rows.steps import least_cycle
from tametrees.rows.tame import is_least_sink, is_tame, is_tame_paper, least_sink, multiplicity, tame_paper, worth
from tametrees.trees.definite import determinant_of
from tametrees.trees.kin import least_tree, put_at_tie, taken_down
from tametrees.trees.trees import Tree, made_tree, renamed
from tests.helpers import (
    BIG, LONG, NO_VALUE, TOO_BIG, check_error, check_same, definite_trees, is_at_or_above, made_line, made_star, odd_values,
    press_by_ties, product_by_ties, put_up_often, random_trees, units, wild_trees, worth_by_k, worth_by_numbers,
)

ONE, STAR, WILD = Tree((1,), ()), Tree.star(2, ((2,), (2,), (2,))), Tree.star(2, ((2,), (2,), (2,), (3,)))
BARRED = Tree.line((1, 1))
HUGE = 10 ** 120
# Wild trees with more places that hang on them, and have the entry 0 in least sinks.
HANGING = (
    ((1, 2, 3, 7, 2), ((0, 1), (0, 2), (0, 3), (3, 4))), ((1, 2, 2, 3, 7), ((0, 1), (0, 3), (0, 4), (2, 4))),
    ((1, 3, 2, 2, 8, 2), ((0, 1), (0, 2), (0, 4), (3, 4), (4, 5))), ((3, 3, 2, 2, 2, 3, 2), ((0, 1), (1, 2), (1, 3), (1, 4), (1, 5), (5, 6))),
    ((2, 2, 2, 2, 3, 2, 2), ((0, 1), (0, 2), (0, 3), (0, 4), (4, 5), (5, 6))),
)


def tame_trees():
    """Tame trees, by the worth of Z."""
    trees = definite_trees(93, 60, range(1, 8), 1, 4) + [STAR, ONE, Tree.line((5, 1, 2)), Tree.star(2, ((2,), (2, 2), (2,) * 4))]
    return [tree for tree in trees if worth_by_numbers(tree, least_cycle(tree)) == 1]


def all_trees():
    source = random.Random(94)
    trees = tame_trees() + wild_trees()
    return trees + [put_up_often(source, tree, source.randint(1, 3)) for tree in trees[::3]]


def steps_from(source, tree, start):
    """Steps of [9.2] in a sequence that the source chooses: the places, the rows, and the presses where 1 is added."""
    row = list(units(tree)[start])
    places, rows, jumps = [start], [tuple(row)], [1]
    while max(press_by_ties(tree, row)) > 0:
        presses = press_by_ties(tree, row)
        place = source.choice([at for at in range(tree.size) if presses[at] > 0])
        row[place] += 1
        places.append(place)
        rows.append(tuple(row))
        jumps.append(presses[place])
    return tuple(places), rows, jumps


def sinks_within(tree, most):
    return [row for row in itertools.product(range(most + 1), repeat=tree.size) if any(row) and worth_by_numbers(tree, row) <= 0]


class Worths(unittest.TestCase):
    def test_9_1_worths_of_all_trees(self):
        source = random.Random(95)
        for tree in random_trees(96, 60, range(1, 13), 0, 5) + wild_trees() + [made_line((LONG,) * 40), made_star(0, (HUGE,) * 39)]:
            for _ in range(4):
                row, other = (tuple(source.randint(-9, 9) for _ in tree) for _ in range(2))
                found = worth(tree, row)
                check_same(self, found, int(worth_by_numbers(tree, row)))
                total = tuple(x + y for x, y in zip(row, other))
                self.assertEqual(worth(tree, total), found + worth(tree, other) - product_by_ties(tree, row, other))
                for place, unit in enumerate(units(tree)):
                    more = tuple(x + y for x, y in zip(row, unit))
                    self.assertEqual(worth(tree, more), found + 1 - press_by_ties(tree, row)[place])

    def test_0_14_worths_by_k(self):
        source = random.Random(97)
        for tree in definite_trees(98, 30, range(1, 8), 1, 5) + wild_trees():
            row = tuple(source.randint(-9, 9) for _ in tree)
            self.assertEqual(worth(tree, row), worth_by_k(tree, row))
            self.assertTrue(all(worth(tree, unit) == 1 for unit in units(tree)))
            self.assertEqual(worth(tree, (0,) * tree.size), 0)

    def test_long_entries(self):
        check_same(self, worth(Tree((3,), ()), (BIG,)), (3 * BIG * BIG - BIG) // 2)
        check_same(self, worth(Tree((0,), ()), (-BIG,)), -BIG)

    def test_wrong_values(self):
        for value in odd_values():
            if not isinstance(value, Tree):
                check_error(self, InvalidTree, NO_VALUE, worth, value, (1,))
                check_error(self, InvalidTree, NO_VALUE, worth, value, value)
            check_error(self, InvalidRow, NO_VALUE, worth, STAR, value)
        for value in ((1, 2, 3), (1, 2, 3, 4, 5), [1, 2, 3, 4], (1, 2, 3, True), (1, 2, 3, (1, 2)), (1, 2, 3, (4, 1)), (1, 2, 3, None), (1, 2, 3, TOO_BIG), (-LONG, 0, 0, 0)):
            check_error(self, InvalidRow, NO_VALUE, worth, STAR, value)
            check_error(self, InvalidRow, NO_VALUE, worth, Tree.line((0, 0, 0, 0)), value)


class Tame(unittest.TestCase):
    def test_9_3_either_no_steps_jump_or_all(self):
        source = random.Random(99)
        for tree in all_trees():
            tame = is_tame(tree)
            for start in range(tree.size):
                places, rows, jumps = steps_from(source, tree, start)
                self.assertEqual(max(jumps) <= 1, tame)
                self.assertEqual(rows[-1], least_cycle(tree))
                self.assertIs(is_tame_paper(tree, ("steps", places)), tame)
                if not tame:
                    first = next(row for row, jump in zip(rows, jumps) if jump >= 2)
                    self.assertIs(is_tame_paper(tree, ("sink", first)), True)

    def test_9_4_the_worth_of_z(self):
        for tree in all_trees():
            found = worth_by_numbers(tree, least_cycle(tree))
            self.assertLessEqual(found, 1)
            self.assertIs(is_tame(tree), found == 1)
            square = -product_by_ties(tree, least_cycle(tree), least_cycle(tree))
            check_same(self, multiplicity(tree), square)
            self.assertGreaterEqual(square, 1)

    def test_0_15_by_all_small_rows(self):
        for tree in all_trees():
            if tree.size <= 5:
                if sinks_within(tree, 4):
                    self.assertIs(is_tame(tree), False)
            if is_tame(tree) and tree.size <= 5:
                self.assertEqual(sinks_within(tree, 4), [])

    def test_9_6_parts_and_greater_numbers(self):
        for tree in tame_trees():
            for place in range(tree.size):
                self.assertIs(is_tame(tree.with_number(place, tree[place] + 3)), True)
                for other in tree.neighbours(place):
                    self.assertIs(is_tame(tree.part(tuple(sorted((place, other))))), True)
            full = made_tree(tuple(max(number, degree) for number, degree in zip(tree, tree.degrees)), tree.ties)
            self.assertIs(is_tame(full), True)
            check_same(self, least_cycle(full), (1,) * tree.size)
            self.assertEqual(least_cycle(tree) == (1,) * tree.size, all(number >= degree for number, degree in zip(tree, tree.degrees)))

    def test_very_many_steps(self):
        tree = Tree.line((2, 1))
        for _ in range(38):
            tree = put_at_tie(tree, *tree.ties[-1])
        self.assertEqual((tree.size, is_tame(tree), least_sink(tree)), (40, True, None))
        wild = put_at_tie(Tree.star(1, ((2,), (3,), (7,))), 0, 3)
        for _ in range(35):
            wild = put_at_tie(wild, *wild.ties[-1])
        sink = least_sink(wild)
        self.assertEqual((wild.size, is_tame(wild), is_least_sink(wild, sink)), (40, False, True))
        self.assertGreater(max(sink), 10 ** 7)
        self.assertIs(is_tame_paper(wild, tame_paper(wild)), True)
        for place in range(40):
            for more in (-1, 1):
                self.assertIs(is_least_sink(wild, sink[:place] + (sink[place] + more,) + sink[place + 1:]), False)

    def test_large_trees(self):
        source = random.Random(100)
        for tree in (made_line((2,) * 40), made_star(40, (1,) * 39), made_star(39, (2,) * 39), made_line((LONG,) * 40)):
            self.assertIs(is_tame(tree), True)
            self.assertIs(is_tame_paper(tree, tame_paper(tree)), True)
        for tree in wild_trees():
            higher = put_up_often(source, tree, 40 - tree.size)
            self.assertIs(is_tame(higher), False)
            self.assertIs(is_least_sink(higher, least_sink(higher)), True)
            self.assertIs(is_tame_paper(higher, tame_paper(higher)), True)
        self.assertIs(is_tame(made_star(20, (2,) * 39)), False)
        self.assertEqual(determinant_of(made_star(20, (2,) * 39)), 2 ** 38)


class Papers(unittest.TestCase):
    def test_0_18_each_tree_has_papers_of_one_sort(self):
        for tree in all_trees():
            paper = tame_paper(tree)
            self.assertEqual((type(paper), len(paper), paper[0], type(paper[1])), (tuple, 2, "steps" if is_tame(tree) else "sink", tuple))
            self.assertTrue(all(type(part) is int for part in paper[1]))
            self.assertIs(is_tame_paper(tree, paper), True)
            other = "sink" if is_tame(tree) else "steps"
            self.assertIs(is_tame_paper(tree, (other, paper[1])), False)

    def test_every_sequence_of_steps_is_accepted_and_nothing_else(self):
        for tree in [ONE, Tree.line((2, 1)), Tree.line((1, 2)), Tree.line((2, 2, 2)), Tree.line((2, 1, 3)), Tree.line((3, 1, 2)), Tree.star(1, ((2,), (3,), (7,)))]:
            right = even_steps(tree)
            most = max([len(places) for places in right], default=3)
            for length in range(min(most + 2, 8)):
                for places in itertools.product(range(-1, tree.size + 1), repeat=length):
                    self.assertIs(is_tame_paper(tree, ("steps", places)), places in right)

    def test_every_sink_is_accepted_and_nothing_else(self):
        for tree in [tree for tree in all_trees() if tree.size <= 4]:
            for row in itertools.product(range(-1, 5 if tree.size < 4 else 4), repeat=tree.size):
                right = min(row) >= 0 and any(row) and worth_by_numbers(tree, row) <= 0
                self.assertIs(is_tame_paper(tree, ("sink", row)), right)

    def test_sinks_of_a_worth_below_0_and_long_rows(self):
        legs = Tree.star(2, ((3,), (3,), (3,), (3,), (3,)))
        self.assertEqual(worth(legs, (3, 1, 1, 1, 1, 1)), -1)
        self.assertIs(is_tame_paper(legs, ("sink", (3, 1, 1, 1, 1, 1))), True)
        for length in (TOO_BIG, HUGE, -HUGE):
            self.assertIs(is_tame_paper(legs, ("sink", (length,) * 6)), False)
            self.assertIs(is_least_sink(legs, (length,) * 6), False)

    def test_papers_near_right_ones(self):
        steps, sink = tame_paper(STAR), tame_paper(WILD)
        for tree, paper in ((STAR, steps), (WILD, sink)):
            word, shown = paper
            for value in ([word, shown], (word, list(shown)), (word,), (word, shown, ()), (shown, word), (word.upper(), shown), (None, shown), (True, shown),
                          (word, ()), (word, shown[1:]), (word, shown + (0,)), (word, (True,) + shown[1:]), (word, shown[:-1] + (None,)), (word, shown[:-1] + ("1",)),
                          (word, (shown,)), (word, dict(enumerate(shown))), (word, None), (word, shown[:-1] + (-1,)), (word, shown[:-1] + (LONG,)), (tree, shown), {word: shown}):
                with self.subTest(repr(value)):
                    self.assertIs(is_tame_paper(tree, value), False)
        self.assertIs(is_tame_paper(WILD, ("sink", (0, 0, 0, 0, 0))), False)
        self.assertIs(is_tame_paper(WILD, ("sink", (2, 1, 1, 1, 1))), True)
        self.assertIs(is_tame_paper(WILD, ("sink", (4, 2, 2, 2, 2))), worth(WILD, (4, 2, 2, 2, 2)) <= 0)

    def test_odd_values_are_judged(self):
        for value in odd_values():
            for tree in (STAR, WILD, ONE):
                self.assertIs(is_tame_paper(tree, value), False)
                self.assertIs(is_least_sink(tree, value), False)
                for word in ("steps", "sink"):
                    right = tree is ONE and word == "steps" and type(value) is tuple and value == (0,) and type(value[0]) is int
                    self.assertIs(is_tame_paper(tree, (word, value)), right)
                    self.assertIs(type(is_tame_paper(tree, (word, (value,) * tree.size))), bool)
                    self.assertIs(type(is_tame_paper(tree, (value, word))), bool)
                self.assertIs(is_least_sink(tree, (value,) * tree.size), False)


def even_steps(tree):
    """All sequences of steps from any e(w) to Z none of which jumps, with w ahead."""
    found = []
    waiting = [((place,), row) for place, row in enumerate(units(tree))]
    while waiting:
        places, row = waiting.pop()
        presses = press_by_ties(tree, row)
        if max(presses) <= 0:
            found.append(places)
        for place, press in enumerate(presses):
            if press == 1:
                waiting.append((places + (place,), row[:place] + (row[place] + 1,) + row[place + 1:]))
    return found


class LeastSinks(unittest.TestCase):
    def test_least_sinks_of_small_trees(self):
        source = random.Random(101)
        for tree in [tree for tree in wild_trees() if tree.size <= 6] + [put_up_often(source, tree, 1) for tree in wild_trees() if tree.size <= 4]:
            sinks = sinks_within(tree, 3)
            least = [row for row in sinks if not any(other != row and is_at_or_above(row, other) for other in sinks)]
            for row in itertools.product(range(4), repeat=tree.size):
                self.assertIs(is_least_sink(tree, row), row in least)
            found = least_sink(tree)
            self.assertIs(is_least_sink(tree, found), True)
            self.assertTrue(found in least or max(found) > 3)

    def test_names_do_not_matter(self):
        source = random.Random(104)
        trees = wild_trees() + [put_up_often(source, tree, 2) for tree in wild_trees()] + [made_tree(*parts) for parts in HANGING]
        for tree in trees:
            for _ in range(4):
                order = list(range(tree.size))
                source.shuffle(order)
                other = renamed(tree, tuple(order))
                found = least_sink(other)
                self.assertIs(is_least_sink(other, found), True)
                self.assertIs(is_least_sink(tree, tuple(found[order[place]] for place in range(tree.size))), True)
                if math.prod(entry + 1 for entry in found) <= 600:
                    below = itertools.product(*[range(entry + 1) for entry in found])
                    self.assertEqual([row for row in below if any(row) and worth_by_numbers(other, row) <= 0], [found])

    def test_9_5_worth_and_presses(self):
        for tree in all_trees():
            found = least_sink(tree)
            self.assertEqual(found is None, is_tame(tree))
            if found is not None:
                self.assertTrue(type(found) is tuple and all(type(entry) is int for entry in found))
                self.assertEqual(worth_by_numbers(tree, found), 0)
                presses = press_by_ties(tree, found)
                self.assertTrue(all(presses[at] == 2 - tree[at] for at in range(tree.size) if found[at]))
                self.assertIs(is_least_sink(tree, found), True)
                for place in range(tree.size):
                    for more in (-1, 1):
                        self.assertIs(is_least_sink(tree, found[:place] + (found[place] + more,) + found[place + 1:]), False)

    def test_9_5_steps_below_a_row(self):
        source = random.Random(102)
        for tree in [tree for tree in wild_trees() if tree.size <= 6]:
            for _ in range(12):
                row = tuple(source.randint(0, 3) for _ in tree)
                below = [other for other in itertools.product(*[range(entry + 1) for entry in row]) if any(other) and worth_by_numbers(tree, other) <= 0]
                self.assertEqual(any(jumps_below(source, tree, start, row) for start in range(tree.size) if row[start]), bool(below))

    def test_least_sinks_stay_when_places_are_put_up(self):
        source = random.Random(103)
        for tree in wild_trees():
            higher = put_up_often(source, tree, 6)
            found = least_sink(higher)
            self.assertIs(is_least_sink(higher, found), True)
            left, row = higher, found
            while left != least_tree(left):
                place = next(place for place in range(left.size) if left[place] == 1 and left.degrees[place] <= 2)
                left, row = taken_down(left, place), row[:place] + row[place + 1:]
            self.assertEqual(worth_by_numbers(left, row), 0)

    def test_sums_of_sinks_are_not_least(self):
        line = Tree((2, 2, 2, 2, 4, 2, 2, 2, 2, 4), ((0, 1), (0, 2), (0, 3), (0, 4), (4, 9), (5, 6), (5, 7), (5, 8), (5, 9)))
        one, other = (2, 1, 1, 1, 1) + (0,) * 5, (0,) * 5 + (2, 1, 1, 1, 1)
        self.assertIs(is_least_sink(line, one), True)
        self.assertIs(is_least_sink(line, other), True)
        self.assertIs(is_least_sink(line, tuple(x + y for x, y in zip(one, other))), False)
        apart = made_tree((2, 2, 2, 2, 3, 9, 3, 2, 2, 2, 2), ((0, 1), (0, 2), (0, 3), (0, 4), (4, 5), (5, 6), (6, 10), (7, 10), (8, 10), (9, 10)))
        both = (2, 1, 1, 1, 1, 0, 1, 1, 1, 1, 2)
        self.assertEqual(worth_by_numbers(apart, both), 0)
        self.assertIs(is_least_sink(apart, both), False)
        self.assertIs(is_least_sink(apart, both[:5] + (0,) * 6), True)
        self.assertIs(is_least_sink(apart, (0,) * 6 + both[6:]), True)

    def test_judged_rows_of_wrong_form(self):
        right = (2, 1, 1, 1, 1)
        self.assertIs(is_least_sink(WILD, right), True)
        for value in (list(right), right[1:], right + (0,), (2, 1, 1, 1, True), (2, 1, 1, 1, (1, 1)), (2, 1, 1, 1, None), (-2, -1, -1, -1, -1), (0,) * 5, (4, 2, 2, 2, 2),
                      (HUGE, 1, 1, 1, 1), (2, 1, 1, 1, -HUGE), (right,), "21111", None):
            self.assertIs(is_least_sink(WILD, value), False)

    def test_k_tells_least_sinks(self):
        for tree in wild_trees():
            row = tuple(-top if bottom == 1 else None for top, bottom in k_row(tree))
            if None not in row and min(row) > 0 and all(is_tame(tree.part(kept)) for kept in parts_without_one_place(tree)):
                self.assertIs(is_least_sink(tree, row), True)


def parts_without_one_place(tree):
    """The places of each part that hangs together when one place goes."""
    found = []
    for gone in range(tree.size):
        for start in tree.neighbours(gone):
            part = [start]
            for place in part:
                part.extend(other for other in tree.neighbours(place) if other != gone and other not in part)
            found.append(tuple(sorted(part)))
    return found


def jumps_below(source, tree, start, ceiling):
    row = list(units(tree)[start])
    while True:
        presses = press_by_ties(tree, row)
        open_places = [at for at in range(tree.size) if presses[at] > 0 and row[at] < ceiling[at]]
        if not open_places:
            return False
        place = source.choice(open_places)
        if presses[place] >= 2:
            return True
        row[place] += 1


class Errors(unittest.TestCase):
    def test_no_trees(self):
        for value in odd_values():
            if not isinstance(value, Tree):
                for call, more in ((is_tame, ()), (tame_paper, ()), (is_tame_paper, (value,)), (least_sink, ()), (is_least_sink, (value,)), (multiplicity, ())):
                    check_error(self, InvalidTree, NO_VALUE, call, value, *more)

    def test_trees_that_are_not_definite(self):
        for tree in (BARRED, Tree((0,), ()), Tree((2,) * 5, ((0, 1), (0, 2), (0, 3), (0, 4))), made_star(39, (1,) * 39), Tree.line((0, 5))):
            for call, more in ((is_tame, ()), (tame_paper, ()), (is_tame_paper, (None,)), (least_sink, ()), (is_least_sink, (None,)), (multiplicity, ())):
                check_error(self, Refused, ("bar",), call, tree, *more)


class NotTrue(unittest.TestCase):
    def test_9_7(self):
        self.assertTrue(min(WILD) == 2 and not is_tame(WILD))
        self.assertTrue(STAR[0] < STAR.degrees[0] and is_tame(STAR))
        self.assertEqual(multiplicity(Tree.line((5, 1, 2))), 3)
        deep = Tree.star(2, ((3,), (3,), (3,), (3,), (3,)))
        self.assertEqual(worth(deep, least_cycle(deep)), -1)
        two = Tree((2, 2, 2, 2, 4, 2, 2, 2, 2, 4), ((0, 1), (0, 2), (0, 3), (0, 4), (4, 9), (5, 6), (5, 7), (5, 8), (5, 9)))
        self.assertIs(is_least_sink(two, (2, 1, 1, 1, 1, 0, 0, 0, 0, 0)), True)
        self.assertIs(is_least_sink(two, (0, 0, 0, 0, 0, 2, 1, 1, 1, 1)), True)


if __name__ == "__main__":
    unittest.main()
