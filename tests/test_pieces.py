"""Stage 13: [13.1] to [13.7], with [0.4] to [0.7], [0.14] and [0.16], for tametrees.low.pieces."""

import functools
import itertools
import math
import random
import unittest
from fractions import Fraction

from tametrees.errors import InvalidClass, InvalidNumber, InvalidRow, InvalidTree, Refused, TooMany
from tametrees.low.pieces import (
    MAX_LEVELS, MAX_LOW, leaf_count, least_level, low_pieces, low_rows, piece_counts, stair_code, worth_in,
)
from tametrees.rows.depth import k_row
from tametrees.rows.tame import is_tame
from tametrees.trees.definite import determinant_of, is_definite
from tametrees.trees.duals import undone_entry
from tametrees.trees.groups import boxed_row, class_opposite, classes_of
from tametrees.trees.kin import put_at_place, put_at_tie
from tametrees.trees.trees import Tree, made_tree
from tests.helpers import (
    BIG, LONG, NO_VALUE, TOO_BIG, check_error, check_same, definite_trees, fractions_of, k_by_elimination, made_line, made_star, odd_values,
    press_by_ties, product_by_ties, put_up_often, wild_trees, worth_by_k,
)

ONE, TWO, THREE, LINE = Tree((1,), ()), Tree((2,), ()), Tree((3,), ()), Tree.line((2, 2))
SEVEN, WIDE, BARRED = Tree.star(1, ((2,), (3,), (7,))), Tree.star(4, ((2,),) * 7), Tree.line((1, 1))
THIRD = Tree.star(1, ((2,), (3,), (13,)))
ZERO, NIL = (0,) * 4, (0,) * 8
OVER = Tree.line((6, 2, 37))
FIVE = (low_rows, low_pieces, piece_counts, stair_code, leaf_count)
STAIRS = (piece_counts, stair_code, leaf_count)


def sample():
    """Pairs of a small tree and a class."""
    trees = definite_trees(141, 14, (1, 2, 3), 1, 4, 40) + definite_trees(142, 5, (4,), 2, 4, 30) + [SEVEN, THIRD, THREE, ONE, TWO, LINE, Tree.star(2, ((2,), (2,), (2,)))]
    return [(tree, class_) for tree in trees for class_ in classes_of(tree)[:6]]


def worth_by_words(tree, class_, row):
    boxed = fractions_of(boxed_row(tree, class_))
    return worth_by_k(tree, [x + y for x, y in zip(boxed, row)]) - worth_by_k(tree, boxed)


def whole_worth(tree, class_, row):
    """The worth in a class by integers alone: that of the row, less its product with the boxed row."""
    whole = determinant_of(tree)
    pressed = [press // whole for press in press_by_ties(tree, class_)]
    total = sum((number * x * x - (number - 2) * x) // 2 for number, x in zip(tree, row))
    return total - sum(row[u] * row[w] for u, w in tree.ties) - sum(x * press for x, press in zip(row, pressed))


@functools.lru_cache(maxsize=None)
def rows_in_spans(numbers, ties, class_, level):
    tree = made_tree(numbers, ties)
    middle = [x / 2 + y for x, y in zip(k_by_elimination(tree), fractions_of(boxed_row(tree, class_)))]
    # With c = K / 2 + r the worth is -(x + c, x + c) / 2 + (c, c) / 2, so the entries of x + c are bounded.
    space = 2 * level - product_by_ties(tree, middle, middle)
    if space < 0:
        return {}
    spans = []
    for place in range(tree.size):
        reach = math.isqrt(math.ceil(space * Fraction(*undone_entry(tree, place, place)))) + 1
        spans.append(range(math.floor(-middle[place] - reach), math.ceil(-middle[place] + reach) + 1))
    worths = {row: whole_worth(tree, class_, row) for row in itertools.product(*spans)}
    return {row: worths[row] for row in worths if worths[row] <= level}


def rows_by_trying(tree, class_, level):
    """All low rows with their worths."""
    return rows_in_spans(tree.numbers, tree.ties, class_, level)


def pieces_by_trying(rows):
    """The pieces of some rows: tuples of rows, by going from row to row."""
    left, pieces = set(rows), []
    while left:
        piece = [left.pop()]
        for row in piece:
            for place, step in itertools.product(range(len(row)), (-1, 1)):
                other = row[:place] + (row[place] + step,) + row[place + 1:]
                if other in left:
                    left.remove(other)
                    piece.append(other)
        pieces.append(tuple(sorted(piece)))
    return tuple(sorted(pieces))


def code_by_words(worths, piece, level):
    """The code of [13.4] of a piece to a level."""
    under = pieces_by_trying([row for row in piece if worths[row] <= level - 1])
    return (level,) + sum(sorted(code_by_words(worths, part, level - 1) for part in under), ())


def stair_by_words(worths, level):
    pieces = pieces_by_trying([row for row in worths if worths[row] <= level])
    return sum(sorted(code_by_words(worths, piece, level) for piece in pieces), ())


def leaves_by_words(worths, low, level):
    return sum(not any(worths[row] <= at - 1 for row in piece)
               for at in range(low, level + 1) for piece in pieces_by_trying([row for row in worths if worths[row] <= at]))


class Worths(unittest.TestCase):
    def test_the_bounds(self):
        check_same(self, (MAX_LOW, MAX_LEVELS), (2000, 100))

    def test_worths_in_a_class(self):
        source = random.Random(143)
        for tree in definite_trees(144, 40, range(1, 9), 1, 5, 400) + [SEVEN, WIDE, THIRD]:
            for class_ in source.sample(classes_of(tree), min(3, determinant_of(tree))):
                row = tuple(source.randint(-9, 9) for _ in tree)
                found = worth_in(tree, class_, row)
                check_same(self, found, int(worth_by_words(tree, class_, row)))
                boxed = fractions_of(boxed_row(tree, class_))
                self.assertEqual(found, worth_by_k(tree, row) - product_by_ties(tree, row, boxed))
                check_same(self, worth_in(tree, class_, (0,) * tree.size), 0)

    def test_large_trees_and_long_rows(self):
        check_same(self, worth_in(TWO, (1,), (BIG,)), BIG * BIG + BIG)
        for tree in (made_line((2,) * 40), made_star(40, (1,) * 39)):
            class_ = classes_of(tree)[-1]
            row = tuple(place - 20 for place in range(40))
            boxed = fractions_of(boxed_row(tree, class_))
            total = sum(Fraction(number * x * x - (number - 2) * x, 2) for number, x in zip(tree, row)) - sum(row[u] * row[w] for u, w in tree.ties)
            check_same(self, worth_in(tree, class_, row), int(total - product_by_ties(tree, row, boxed)))

    def test_wrong_rows(self):
        for value in ((), (1,), (1, 2, 3, 4, 5), [1, 2, 3, 4], (1, 2, 3, True), (1, 2, 3, (1, 1)), (1, 2, 3, None), (1, 2, 3, TOO_BIG), (LONG, 1, 1, 1), "1234", None, 1, SEVEN):
            check_error(self, InvalidRow, NO_VALUE, worth_in, SEVEN, ZERO, value)
            check_error(self, InvalidClass, NO_VALUE, worth_in, SEVEN, value, value)
        for value in odd_values():
            check_error(self, InvalidRow, NO_VALUE, worth_in, SEVEN, ZERO, value)


class LowRows(unittest.TestCase):
    def test_13_1_all_low_rows(self):
        for tree, class_ in sample():
            worths = rows_by_trying(tree, class_, 3)
            low = min(worths.values())
            check_same(self, least_level(tree, class_), low)
            self.assertLessEqual(low, 0)
            for level in range(low - 2, 4):
                expected = sorted(row for row in worths if worths[row] <= level)
                check_same(self, low_rows(tree, class_, level), tuple(expected))
                self.assertTrue(all(worth_in(tree, class_, row) == worths[row] for row in expected[:9]))

    def test_least_levels_of_larger_trees(self):
        source = random.Random(145)
        for tree in definite_trees(146, 25, range(5, 9), 1, 4, 100) + wild_trees():
            if determinant_of(tree) <= 400:
                class_ = source.choice(classes_of(tree))
                try:
                    low = least_level(tree, class_)
                except TooMany:
                    continue
                rows = low_rows(tree, class_, low)
                self.assertTrue(rows and all(worth_in(tree, class_, row) == low for row in rows))
                check_same(self, low_rows(tree, class_, low - 1), ())
                self.assertEqual(rows, tuple(row for row in low_rows(tree, class_, 0) if worth_in(tree, class_, row) == low))

    def test_13_2_both_ends(self):
        source = random.Random(147)
        for tree, class_ in sample():
            one, other = (tuple(source.randint(-4, 4) for _ in tree) for _ in range(2))
            ends = [tuple(map(choice, one, other)) for choice in (min, max)]
            self.assertLessEqual(sum(worth_in(tree, class_, row) for row in ends), worth_in(tree, class_, one) + worth_in(tree, class_, other))
            rows = low_rows(tree, class_, least_level(tree, class_))
            for choice in (min, max):
                self.assertIn(tuple(choice(entries) for entries in zip(*rows)), rows)

    def test_13_5_opposite_rows(self):
        for tree in (SEVEN, THIRD, LINE, ONE, Tree.star(2, ((2,), (2,), (2,), (3,)))):
            if all(bottom == 1 for _, bottom in k_row(tree)):
                k, zero = [top for top, _ in k_row(tree)], (0,) * tree.size
                for level in range(3):
                    turned = sorted(tuple(-x - y for x, y in zip(k, row)) for row in low_rows(tree, zero, level))
                    check_same(self, low_rows(tree, zero, level), tuple(turned))

    def test_0_16_the_box_is_a_choice_of_the_class(self):
        for tree, class_ in sample():
            opposite = class_opposite(tree, class_)
            self.assertEqual(opposite in classes_of(tree), True)
            boxed = fractions_of(boxed_row(tree, class_))
            for row in low_rows(tree, class_, 1)[:5]:
                self.assertEqual(worth_in(tree, class_, row), worth_by_k(tree, [x + y for x, y in zip(boxed, row)]) - worth_by_k(tree, boxed))

    def test_places_put_up(self):
        source = random.Random(148)
        for tree, class_ in sample()[::3]:
            higher = put_up_often(source, tree, 2)
            for more in [more for more in classes_of(higher) if more[:tree.size] == class_]:
                check_same(self, least_level(higher, more), least_level(tree, class_))
                for level in range(-1, 2):
                    try:
                        found = low_rows(higher, more, level)
                    except TooMany:
                        continue
                    self.assertTrue(all(worth_in(higher, more, row) <= level for row in found))
                    check_same(self, tuple(sorted({row[:tree.size] for row in found})), low_rows(tree, class_, level))
                    self.check_neighbours(higher, more, level, found)

    def check_neighbours(self, tree, class_, level, found):
        """No row next to a low row is left out."""
        held = set(found)
        for row in found[:60]:
            for place, step in itertools.product(range(tree.size), (-1, 1)):
                other = row[:place] + (row[place] + step,) + row[place + 1:]
                self.assertEqual(other in held, worth_in(tree, class_, other) <= level)


def counts_in_a_box(tree, class_, level, reach):
    """How many rows with entries from -reach to reach have which worth, to a level: branch by branch, as tuples of pairs."""
    whole = determinant_of(tree)
    pressed = [press // whole for press in press_by_ties(tree, class_)]

    @functools.lru_cache(maxsize=None)
    def branch(place, parent, above):
        found = {}
        for x in range(-reach, reach + 1):
            own = (tree[place] * x * x - (tree[place] - 2) * x) // 2 - x * pressed[place] - x * above
            told = {own: 1}
            for child in tree.neighbours(place):
                if child != parent:
                    more = branch(child, place, x)
                    total = {}
                    for worth, many in told.items():
                        for other, times in more.items():
                            total[worth + other] = total.get(worth + other, 0) + many * times
                    told = total
            for worth, many in told.items():
                found[worth] = found.get(worth, 0) + many
        return found

    found = branch(0, None, 0)
    return {worth: found[worth] for worth in sorted(found) if worth <= level}


# Trees with two wild parts, so that the least worth of a branch is not reached next to the middle of its curve.
PAIRS = (
    Tree((2, 2, 2, 2, 4, 2, 2, 2, 2, 4), ((0, 1), (0, 2), (0, 3), (0, 4), (4, 9), (5, 6), (5, 7), (5, 8), (5, 9))),
    Tree((1, 2, 3, 7, 1, 2, 3, 8), ((0, 1), (0, 2), (0, 3), (3, 7), (4, 5), (4, 6), (4, 7))),
    Tree((1, 2, 3, 8, 1, 2, 3, 8), ((0, 1), (0, 2), (0, 3), (3, 7), (4, 5), (4, 6), (4, 7))),
    Tree((1, 2, 4, 5, 1, 3, 3, 6, 2), ((0, 1), (0, 2), (0, 3), (3, 8), (4, 5), (4, 6), (4, 7), (7, 8))),
    Tree((2, 3, 3, 3, 3, 3, 2, 3, 3, 3, 4), ((0, 1), (0, 2), (0, 3), (0, 4), (0, 5), (5, 6), (6, 7), (6, 8), (6, 9), (6, 10))),
)


class LargerTrees(unittest.TestCase):
    def test_low_rows_are_as_many_as_branches_tell(self):
        source = random.Random(150)
        trees = [tree for tree in PAIRS if is_definite(tree) and determinant_of(tree) <= 400] + wild_trees()
        trees += definite_trees(151, 12, range(6, 11), 1, 3, 200)
        compared = 0
        for tree in trees:
            if determinant_of(tree) > 400:
                continue
            for class_ in source.sample(classes_of(tree), min(3, determinant_of(tree))):
                for level in (2, 0, -1):
                    try:
                        rows = low_rows(tree, class_, level)
                    except TooMany:
                        continue
                    far = max([abs(entry) for row in rows for entry in row], default=0)
                    if far <= 9:
                        worths = sorted(worth_in(tree, class_, row) for row in rows)
                        expected = counts_in_a_box(tree, class_, level, max(far + 1, 4))
                        self.assertEqual({worth: worths.count(worth) for worth in sorted(set(worths))}, expected)
                        compared += 1
        self.assertGreater(compared, 60)


class Bounds(unittest.TestCase):
    def test_just_2000_low_rows_and_more(self):
        # The worth of a row of the lone place with 2 in the class (0,) is the square of its entry.
        for most, level in ((1999, 999 ** 2), (1999, 1000 ** 2 - 1)):
            self.assertEqual(len(low_rows(TWO, (0,), level)), most)
        # In the class (1,) the worth is x x + x, so rows come in pairs.
        check_same(self, low_rows(TWO, (1,), 999 * 1000), tuple((entry,) for entry in range(-1000, 1000)))
        check_same(self, low_rows(TWO, (1,), 1000 * 1001 - 1), tuple((entry,) for entry in range(-1000, 1000)))
        check_same(self, len(low_pieces(TWO, (1,), 999 * 1000)), 1)
        higher = Tree.line((3, 1))
        check_same(self, [len(low_rows(higher, (0, 0), level)) for level in (447, 448)], [2000, 2000])
        check_error(self, TooMany, 2000, low_rows, higher, (0, 0), 449)
        for call in FIVE:
            check_error(self, TooMany, 2000, call, TWO, (0,), 1000 ** 2)
            check_error(self, TooMany, 2000, call, TWO, (1,), 1000 * 1001)
            check_error(self, TooMany, 2000, call, TWO, (1,), BIG)
            check_error(self, TooMany, 2000, call, SEVEN, ZERO, 10 ** 50)
        for call in STAIRS:
            check_error(self, TooMany, 100, call, TWO, (1,), 999 * 1000)
            check_error(self, TooMany, 100, call, TWO, (0,), 999 ** 2)

    def test_just_100_levels_and_one_more(self):
        check_same(self, piece_counts(THREE, (0,), 100), (1,) * 101)
        check_same(self, stair_code(THREE, (0,), 100), tuple(range(100, -1, -1)))
        check_same(self, leaf_count(THREE, (0,), 100), 1)
        flat = made_tree((400,), ())
        check_same(self, (low_rows(flat, (0,), 100), len(piece_counts(flat, (0,), 100))), (((0,), (1,)), 101))
        for call in STAIRS:
            check_error(self, TooMany, 100, call, THREE, (0,), 101)
            check_error(self, TooMany, 100, call, THREE, (2,), 101)
        check_same(self, len(low_rows(THREE, (0,), 101)), len(rows_by_trying(THREE, (0,), 101)))
        # The least level of WIDE is -1.
        self.assertEqual(least_level(WIDE, NIL), -1)

    def test_more_than_2000_rows_to_the_level_0(self):
        tree = ONE
        for many in range(1, 14):
            tree = put_at_place(tree, many // 2)
            # Each place that is put up makes twice as many low rows to the level 0.
            if 2 ** tree.size <= 2000:
                check_same(self, (least_level(tree, (0,) * tree.size), len(low_rows(tree, (0,) * tree.size, 0))), (0, 2 ** tree.size))
            else:
                check_error(self, TooMany, 2000, least_level, tree, (0,) * tree.size)
                check_error(self, TooMany, 2000, low_rows, tree, (0,) * tree.size, 0)
                check_same(self, low_rows(tree, (0,) * tree.size, -1), ())

    def test_large_trees(self):
        line, zero = made_line((2,) * 40), (0,) * 40
        check_same(self, (least_level(line, zero), len(low_rows(line, zero, 1)), piece_counts(line, zero, 1)), (0, 1641, (1, 1)))
        check_error(self, TooMany, 2000, low_rows, line, zero, 2)
        tree = Tree.line((2, 1))
        for _ in range(38):
            tree = put_at_tie(tree, *tree.ties[-1])
        check_same(self, (low_rows(tree, zero, -1), low_rows(tree, zero, -BIG), piece_counts(tree, zero, -1)), ((), (), ()))
        check_error(self, TooMany, 2000, low_rows, tree, zero, 0)
        check_error(self, TooMany, 2000, least_level, tree, zero)
        fork = made_tree((2,) * 40, ((0, 1), (0, 2), (0, 3)) + tuple((place, place + 1) for place in range(3, 39)))
        for class_ in classes_of(fork):
            check_same(self, low_rows(fork, class_, -1), ())
        check_same(self, low_rows(fork, zero, 0), (zero,))


class Pieces(unittest.TestCase):
    def test_13_3_pieces(self):
        for tree, class_ in sample():
            worths = rows_by_trying(tree, class_, 3)
            for level in range(-1, 4):
                check_same(self, low_pieces(tree, class_, level), pieces_by_trying([row for row in worths if worths[row] <= level]))

    def test_13_4_stairs(self):
        for tree, class_ in sample():
            worths = rows_by_trying(tree, class_, 3)
            low = min(worths.values())
            for level in range(low - 1, 4):
                counts = tuple(len(pieces_by_trying([row for row in worths if worths[row] <= at])) for at in range(low, level + 1))
                check_same(self, piece_counts(tree, class_, level), counts)
                check_same(self, stair_code(tree, class_, level), stair_by_words(worths, level) if level >= low else ())
                check_same(self, leaf_count(tree, class_, level), leaves_by_words(worths, low, level))

    def test_stairs_of_wild_trees(self):
        for tree in wild_trees():
            if determinant_of(tree) <= 400:
                for class_ in classes_of(tree)[:2]:
                    try:
                        rows = low_rows(tree, class_, 0)
                    except TooMany:
                        continue
                    worths = {row: worth_in(tree, class_, row) for row in rows}
                    low = min(worths.values())
                    check_same(self, low_pieces(tree, class_, 0), pieces_by_trying(rows))
                    check_same(self, stair_code(tree, class_, 0), stair_by_words(worths, 0))
                    check_same(self, leaf_count(tree, class_, 0), leaves_by_words(worths, low, 0))

    def test_levels_below_the_least_one(self):
        for tree, class_ in sample()[::2] + [(WIDE, NIL)]:
            low = least_level(tree, class_)
            for level in (low - 1, low - 2, -1000, -BIG):
                for call in (low_rows, low_pieces, piece_counts, stair_code):
                    check_same(self, call(tree, class_, level), ())
                check_same(self, leaf_count(tree, class_, level), 0)
            self.assertEqual(len(piece_counts(tree, class_, low)), 1)

    def test_13_6_tame_trees_have_one_leaf_in_each_stair(self):
        for tree in definite_trees(149, 25, range(1, 6), 1, 4, 60) + [SEVEN, THIRD, WIDE, Tree.star(2, ((2,), (2,), (2,), (3,)))]:
            if tree is not WIDE:
                found = [leaf_count(tree, class_, least_level(tree, class_) + 1) for class_ in classes_of(tree)]
                self.assertEqual(max(found) == 1, is_tame(tree))
        self.assertEqual(leaf_count(WIDE, NIL, 0), 3)


class Errors(unittest.TestCase):
    def test_no_trees(self):
        for value in odd_values():
            if not isinstance(value, Tree):
                check_error(self, InvalidTree, NO_VALUE, worth_in, value, value, value)
                check_error(self, InvalidTree, NO_VALUE, least_level, value, value)
                for call in FIVE:
                    check_error(self, InvalidTree, NO_VALUE, call, value, (0,), value)

    def test_trees_that_are_not_classed(self):
        for tree in (BARRED, Tree((0,), ()), made_star(39, (1,) * 39), Tree.line((1, 1, 1, 60, 60, 1, 1, 1))):
            for call in FIVE + (worth_in,):
                check_error(self, Refused, ("bar",), call, tree, None, None)
            check_error(self, Refused, ("bar",), least_level, tree, None)
        for tree in (OVER, made_tree((401,), ()), made_line((60,) * 12), made_line((LONG,) * 40)):
            for call in FIVE + (worth_in,):
                check_error(self, TooMany, 400, call, tree, None, None)
            check_error(self, TooMany, 400, least_level, tree, None)
        full = made_tree((400,), ())
        check_same(self, low_rows(full, (0,), 0), ((0,),))

    def test_classes_of_wrong_form(self):
        for value in ((1,), (0, 0), (0, 0, 0, 0, 0), [0, 0, 0, 0], (0, 0, 0, 1), (0, 0, 0, False), None, 0, "0000", (0, 0, 0, (0, 1)), (0, 0, 0, LONG), (-1, 0, 0, 0), SEVEN):
            for call in FIVE + (worth_in,):
                check_error(self, InvalidClass, NO_VALUE, call, SEVEN, value, None)
            check_error(self, InvalidClass, NO_VALUE, least_level, SEVEN, value)
        for value in odd_values():
            for call in FIVE + (worth_in,):
                check_error(self, InvalidClass, NO_VALUE, call, SEVEN, value, value)

    def test_levels_of_wrong_form(self):
        for value in (None, True, False, "1", (1, 1), (1,), [1], {}, TOO_BIG, -TOO_BIG, LONG, -LONG, SEVEN):
            for call in FIVE:
                check_error(self, InvalidNumber, value, call, THREE, (0,), value)
        for value in odd_values():
            if type(value) is not int or abs(value) >= TOO_BIG:
                for call in FIVE:
                    check_error(self, InvalidNumber, value, call, SEVEN, ZERO, value)

    def test_2000_rows_come_ahead_of_100_levels(self):
        for call in STAIRS:
            check_error(self, TooMany, 2000, call, THREE, (0,), BIG)
            check_error(self, TooMany, 100, call, THREE, (0,), 101)
            check_error(self, TooMany, 2000, call, SEVEN, ZERO, 101)


class NotTrue(unittest.TestCase):
    def test_13_7(self):
        self.assertEqual(stair_code(WIDE, NIL, 0), (0, 0, 0, -1))
        self.assertEqual((least_level(WIDE, NIL), worth_in(WIDE, NIL, NIL)), (-1, 0))
        self.assertEqual(piece_counts(THREE, (0,), 5), piece_counts(THREE, (2,), 5))
        self.assertNotEqual(len(low_rows(THREE, (0,), 0)), len(low_rows(THREE, (2,), 0)))


if __name__ == "__main__":
    unittest.main()
