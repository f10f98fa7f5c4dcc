"""The conventions, words and statements that hold for every module: [0.1] to [0.14], [0.17], [0.18], [0.20] and [0.21].

[0.15], [0.16] and [0.19] are tested with tame trees, pieces of low rows, and the roads to one count.
"""

import copy
import unittest

from tametrees.base import fractions, tables
from tametrees.errors import (
    InvalidClass, InvalidFraction, InvalidNumber, InvalidOperation, InvalidRow, InvalidTable, InvalidTree, ParseError, Refused, TooMany,
)
from tametrees.desk.desk import Desk
from tametrees.low import boxes, near, pieces, stars
from tametrees.number import number
from tametrees.odd import halves, heights
from tametrees.rows import depth, steps, tame, twos
from tametrees.series import series
from tametrees.text import texts
from tametrees.trees import chains, definite, duals, groups, kin, trees
from tametrees.trees.trees import Tree, likenesses
from tests.helpers import (
    BIG, LONG, NO_VALUE, TOO_BIG, check_error, check_same, made_line, made_star, odd_values, plain, random_trees,
)

LINE = Tree.line((2, 3, 2))
CLASS = groups.classes_of(LINE)[1]
FORTY = made_line((LONG,) + (99,) * 39)
REFUSALS = (
    InvalidTree, InvalidRow, InvalidOperation, InvalidFraction, InvalidNumber, InvalidTable, InvalidClass, Refused,
    TooMany, ParseError,
)
HALVES = ((2, 1), (3, 1), (7, 1))
TWOS, ODD = Tree.star(2, ((2,), (2,), (2,))), (2, 3, 0)
WILD, ONE = Tree.star(2, ((2,), (2,), (2,), (3,))), Tree((1,), ())


def good_calls():
    """A call of each function and method with right values: (what is called, its values)."""
    return [
        (fractions.lowest, (6, -4)), (fractions.plus, (1, (1, 2))), (fractions.minus, (1, (1, 2))),
        (fractions.times, ((2, 3), (3, 4))), (fractions.over, (1, 4)), (fractions.compare, (1, 2)),
        (fractions.floor_of, ((7, 2),)), (fractions.rest_of, ((7, 2),)), (fractions.is_integer, (3,)),
        (fractions.is_fraction, ((1, 2),)), (fractions.is_number, (3,)),
        (Tree, ((2, 3), ((0, 1),))), (Tree.line, ((2, 3),)), (Tree.star, (2, ((1,), (2, 3)))),
        (LINE.neighbours, (1,)), (LINE.press, ((1, (1, 2), 0),)), (LINE.product, ((1, 1, 1), ((1, 2), 0, 0))),
        (LINE.part, ((0, 1),)), (LINE.with_number, (0, 60)), (trees.tree_code, (LINE,)), (trees.are_alike, (LINE, LINE)),
        (trees.is_likeness, (LINE, LINE, (0, 1, 2))), (trees.renamed, (LINE, (2, 1, 0))),
        (tables.is_table, (((1, 2), (3, 4)),)), (tables.rank, (((1, 2), (3, 4)),)), (tables.factors, (((1, 2), (3, 4)),)),
        (tables.determinant, (((1, 2), (3, 4)),)), (tables.undone, (((1, 2), (3, 4)),)),
        (definite.is_definite, (LINE,)), (definite.pivots, (LINE,)), (definite.determinant_of, (LINE,)),
        (definite.minors, (LINE,)), (definite.definite_paper, (LINE,)), (definite.definite_paper, (Tree.line((1, 1)),)),
        (definite.is_definite_paper, (LINE, ("bar", (1, 1, 1)))),
        (duals.path_between, (LINE, 0, 2)), (duals.left_determinant, (LINE, (0, 1))), (duals.undone_entry, (LINE, 0, 2)),
        (duals.dual_row, (LINE, 1)), (duals.is_dual, (LINE, (1, 2, 3))),
        (groups.is_class, (LINE, (2, 4, 6))), (groups.classes_of, (LINE,)), (groups.class_of, (LINE, (1, 2, 3))),
        (groups.boxed_row, (LINE, CLASS)), (groups.place_class, (LINE, 1)), (groups.class_sum, (LINE, CLASS, CLASS)),
        (groups.class_opposite, (LINE, CLASS)), (groups.class_order, (LINE, CLASS)),
        (groups.class_product, (LINE, CLASS, CLASS)), (groups.class_factors, (LINE,)), (groups.halves_of, (LINE,)),
    ] + calls_of_kin_and_chains() + calls_of_rows() + calls_of_classes() + calls_of_counts() + calls_of_numbers()


def calls_of_kin_and_chains():
    line = Tree.line((2, 1, 3))
    return [
        (kin.takeable, (line,)), (kin.taken_down, (line, 1)), (kin.put_at_place, (LINE, 1)), (kin.put_at_tie, (LINE, 2, 1)),
        (kin.least_tree, (line,)), (kin.are_kin, (line, ONE)), (kin.kin_paper, (line, ONE)), (kin.kin_paper, (LINE, ONE)),
        (kin.is_kin_paper, (line, ONE, ("kin", (1, 0), (), (0,)))), (chains.chain_numbers, (7, 3)),
        (chains.chain_fraction, ((3, 2, 2),)), (chains.turned_chain, ((3, 2, 2),)), (chains.beside_chain, ((3, 2, 2),)),
        (chains.joined_chain, ((3, 2, 2),)), (chains.chain_down, ((3, 1, 2),)), (chains.saw_sum, (3, 7)), (chains.chain_share, (7, 3)),
    ]


def calls_of_rows():
    return [
        (steps.is_quiet, (LINE, (1, (1, 2), 0))), (steps.quiet_above, (LINE, (1, (1, 2), 0))), (steps.steps_above, (LINE, (1, (1, 2), 0))),
        (steps.is_steps, (LINE, (1, 0, 0), (1, 2))), (steps.least_cycle, (LINE,)), (tame.worth, (LINE, (1, 2, 3))), (tame.is_tame, (LINE,)),
        (tame.tame_paper, (LINE,)), (tame.tame_paper, (WILD,)), (tame.is_tame_paper, (LINE, ("steps", (0, 1, 2)))), (tame.least_sink, (WILD,)),
        (tame.is_least_sink, (WILD, (2, 1, 1, 1, 1))), (tame.multiplicity, (LINE,)), (twos.twos_kind, (TWOS,)), (twos.two_rows, (TWOS,)),
        (twos.two_count, (TWOS,)), (twos.greatest_two, (TWOS,)), (twos.two_heights, (TWOS,)), (depth.k_row, (LINE,)), (depth.k_multiple, (LINE,)),
        (depth.share_of, (LINE,)), (depth.depth_of, (LINE,)), (depth.even_row, (WILD,)),
    ]


def calls_of_classes():
    return [
        (heights.odd_class, (LINE, ODD)), (heights.odd_square, (LINE, ODD)), (heights.height_path, (LINE, ODD)), (heights.height, (LINE, CLASS)),
        (heights.highest, (LINE, CLASS)), (heights.is_highest, (LINE, CLASS, ODD)), (pieces.worth_in, (LINE, CLASS, (1, 2, 3))),
        (pieces.least_level, (LINE, CLASS)), (pieces.low_rows, (LINE, CLASS, 2)), (pieces.low_pieces, (LINE, CLASS, 2)),
        (pieces.piece_counts, (LINE, CLASS, 2)), (pieces.stair_code, (LINE, CLASS, 2)), (pieces.leaf_count, (LINE, CLASS, 2)),
    ]


def calls_of_counts():
    low, high = boxes.sure_box(LINE, CLASS)
    return [
        (near.near_places, (LINE,)), (near.lifted_row, (LINE, 1, CLASS, 3)), (near.tau, (LINE, 1, CLASS, 9)), (near.tau_code, (LINE, 1, CLASS, 2)),
        (near.near_count, (LINE, 0, CLASS)), (stars.star_tree, (1, HALVES)), (stars.is_star_definite, (1, HALVES)), (stars.star_tau, (1, HALVES, 9)),
        (stars.star_count, (1, HALVES)), (stars.triple_star, (2, 3, 7)), (stars.triple_count, (2, 3, 7)), (boxes.sure_box, (LINE, CLASS)),
        (boxes.box_count, (LINE, CLASS, low, high)), (boxes.class_count, (LINE, CLASS)), (boxes.euler_numbers, (LINE, CLASS, 3)),
        (series.coefficient, (LINE, (2, 0, 1))), (series.is_far, (LINE, CLASS, high)), (series.far_row, (LINE, CLASS)),
        (series.left_behind, (LINE, CLASS, series.far_row(LINE, CLASS))),
    ]


def calls_of_numbers():
    lot = halves.wu_lots(LINE)[0]
    return [
        (number.class_share, (LINE, CLASS)), (number.class_shares, (LINE,)), (number.number_by_classes, (LINE,)), (number.number_by_table, (LINE,)),
        (halves.wu_lots, (LINE,)), (halves.is_wu_lot, (LINE, lot)), (halves.wu_number, (LINE, lot)), (halves.wu_class, (LINE, lot)),
        (texts.kind_of_text, ("tree 2 1 3 | 0 1 | 1 2",)), (texts.read_value, ("tree 2 1 3 | 0 1 | 1 2",)), (texts.read_value, ("row 1 1/2",)),
        (texts.is_text, ("class 0",)),
    ]


def has_only_plain_kinds(value):
    """Whether a returned value is made of integers, booleans, strings, tuples and trees alone, or is a dict of such."""
    if type(value) is dict:
        return list(value) == sorted(value) and all(has_only_plain_kinds(part) for item in value.items() for part in item)
    if isinstance(value, tuple):
        return type(value) is tuple and all(has_only_plain_kinds(part) for part in value)
    return type(value) in (int, bool, str, Tree)


class Conventions(unittest.TestCase):
    def test_0_1_integers_have_at_most_sixty_digits(self):
        for value in (BIG, -BIG):
            check_same(self, fractions.plus(value, 0), (value, 1))
            check_same(self, LINE.press((value, 0, 0)), ((-2 * value, 1), (value, 1), (0, 1)))
        for value in (TOO_BIG, -TOO_BIG, LONG):
            check_error(self, InvalidFraction, NO_VALUE, fractions.plus, value, 0)
            check_error(self, InvalidNumber, value, fractions.lowest, value, 1)
            check_error(self, InvalidRow, NO_VALUE, LINE.press, (value, 0, 0))
            check_error(self, InvalidTree, NO_VALUE, Tree, (value,), ())

    def test_0_1_returned_integers_can_be_longer(self):
        check_same(self, LINE.product((BIG, 0, 0), (BIG, 0, 0)), (-2 * BIG * BIG, 1))
        check_same(self, FORTY.numbers[0], LONG)
        check_same(self, FORTY.table[0][0], -LONG)

    def test_0_1_sequences_are_tuples(self):
        for call, values in good_calls():
            self.assertTrue(has_only_plain_kinds(call(*values)), call)
            for at, value in enumerate(values):
                if isinstance(value, tuple) and not call.__name__.startswith(("is_", "are_")):
                    changed = values[:at] + (list(value),) + values[at + 1:]
                    with self.assertRaises(REFUSALS):
                        call(*changed)

    def test_0_1_True_and_False_are_no_integers(self):
        for value in (True, False):
            check_error(self, InvalidFraction, NO_VALUE, fractions.plus, value, 1)
            check_error(self, InvalidNumber, value, fractions.lowest, 1, value)
            check_error(self, InvalidTree, NO_VALUE, Tree, (value,), ())
            check_error(self, InvalidNumber, value, LINE.neighbours, value)
            check_error(self, InvalidNumber, value, LINE.with_number, 0, value)
            check_error(self, InvalidRow, NO_VALUE, LINE.press, (1, value, 1))
            self.assertIs(value in LINE, False)

    def test_0_2_equal_calls_return_equal_results_and_change_nothing(self):
        for call, values in good_calls():
            before = plain(list(values))
            first, second = call(*values), call(*copy.deepcopy(values))
            self.assertEqual(plain(first), plain(second))
            self.assertEqual(plain(list(values)), before)
            self.assertEqual(plain(LINE), ("tree", (2, 3, 2), ((0, 1), (1, 2))))

    def test_0_2_refused_calls_change_nothing(self):
        for call, values in good_calls():
            for value in odd_values():
                before = plain(value)
                try:
                    call(*((value,) + values[1:]))
                except REFUSALS:
                    pass
                self.assertEqual(plain(value), before)

    def test_0_2_what_is_yielded_is_not_shared(self):
        numbers = list(LINE)
        numbers.append(7)
        numbers[0] = 9
        self.assertEqual((list(LINE), LINE.numbers), ([2, 3, 2], (2, 3, 2)))
        self.assertIsNot(iter(LINE), iter(LINE))

    def test_0_4_a_generator_raises_its_errors_with_the_first_element(self):
        for values in ((None, LINE), (LINE, None), ((2,), (2,))):
            found = likenesses(*values)
            check_error(self, InvalidTree, NO_VALUE, next, found)

    def test_0_5_judges_return_booleans_for_every_value(self):
        for value in odd_values():
            for judge in (fractions.is_integer, fractions.is_fraction, fractions.is_number):
                self.assertIn(judge(value), (True, False))
                self.assertIs(type(judge(value)), bool)
            self.assertIs(type(tables.is_table(value)), bool)
            for tree in (LINE, FORTY, Tree((0,), ())):
                self.assertIs(type(trees.is_likeness(tree, tree, value)), bool)
                self.assertIs(type(definite.is_definite_paper(tree, value)), bool)
                self.assertIs(type(duals.is_dual(tree, value)), bool)
            for tree in (LINE, FORTY, WILD):
                self.assertIs(type(kin.is_kin_paper(tree, ONE, value)), bool)
                self.assertIs(type(steps.is_steps(tree, (1,) * tree.size, value)), bool)
                self.assertIs(type(tame.is_tame_paper(tree, value)), bool)
                self.assertIs(type(tame.is_least_sink(tree, value)), bool)
            self.assertIs(type(groups.is_class(LINE, value)), bool)
            self.assertIs(type(heights.is_highest(LINE, CLASS, value)), bool)
            self.assertIs(type(series.is_far(LINE, CLASS, value)), bool)
            self.assertIs(type(halves.is_wu_lot(FORTY, value)), bool)
            self.assertIs(type(texts.is_text(value)), bool)
            self.assertIs(type(value in LINE), bool)
            self.assertIs(type(value in Desk()), bool)
        self.assertIs(type(trees.are_alike(LINE, FORTY)), bool)

    def test_0_7_the_first_wrong_argument_is_told(self):
        for wrong in (None, (2,), True, "tree", (LINE,)):
            check_error(self, InvalidTree, NO_VALUE, trees.are_alike, wrong, wrong)
            check_error(self, InvalidTree, NO_VALUE, trees.is_likeness, LINE, wrong, wrong)
            check_error(self, InvalidTree, NO_VALUE, trees.renamed, wrong, wrong)
            check_error(self, InvalidOperation, NO_VALUE, trees.renamed, LINE, wrong)
        check_error(self, InvalidNumber, -1, LINE.with_number, -1, -2)
        check_error(self, InvalidNumber, -2, LINE.with_number, 1, -2)
        check_error(self, InvalidTree, NO_VALUE, kin.put_at_tie, None, -1, -2)
        check_error(self, InvalidNumber, -1, kin.put_at_tie, LINE, -1, -2)
        check_error(self, InvalidNumber, -2, kin.put_at_tie, LINE, 1, -2)
        check_error(self, InvalidTree, NO_VALUE, pieces.low_rows, None, None, None)
        check_error(self, InvalidClass, NO_VALUE, pieces.low_rows, LINE, None, None)
        check_error(self, InvalidNumber, None, pieces.low_rows, LINE, CLASS, None)
        check_error(self, InvalidTree, NO_VALUE, near.tau_code, None, None, None, None)
        check_error(self, InvalidNumber, None, near.tau_code, LINE, None, None, None)
        check_error(self, InvalidClass, NO_VALUE, boxes.box_count, LINE, None, None, None)
        check_error(self, InvalidRow, NO_VALUE, boxes.box_count, LINE, CLASS, None, None)
        check_error(self, InvalidNumber, "a", fractions.lowest, "a", "b")
        check_error(self, InvalidNumber, "b", fractions.lowest, 1, "b")


class Words(unittest.TestCase):
    def test_0_8_returned_numbers_are_pairs(self):
        check_same(self, fractions.plus(1, 1), (2, 1))
        check_same(self, fractions.minus((1, 2), (1, 2)), (0, 1))
        check_same(self, LINE.press((0, 0, 0)), ((0, 1), (0, 1), (0, 1)))
        check_same(self, LINE.product((1, 0, 0), (0, 0, 1)), (0, 1))

    def test_0_9_trees_that_the_package_made_can_be_larger(self):
        check_error(self, InvalidTree, NO_VALUE, Tree, FORTY.numbers, FORTY.ties)
        check_error(self, InvalidTree, NO_VALUE, Tree.line, (2,) * 13)
        for tree in (FORTY, made_star(LONG, (61,) * 39), made_line(range(13)), made_line((61,))):
            size = tree.size
            backwards = tuple(reversed(range(size)))
            other = trees.renamed(tree, backwards)
            self.assertEqual(len(trees.tree_code(tree)), size)
            self.assertIs(trees.are_alike(tree, other), True)
            self.assertIs(trees.is_likeness(tree, other, backwards), True)
            self.assertIn(next(iter(likenesses(tree, other))), (backwards, next(likenesses(tree, other))))
            self.assertEqual(trees.renamed(other, backwards), tree)
            self.assertEqual(len(tree.press((1,) * size)), size)
            self.assertEqual(tree.product((1,) + (0,) * (size - 1), (1,) + (0,) * (size - 1)), (-tree[0], 1))
            self.assertEqual(tree.part((0,)).numbers, (tree[0],))
            self.assertEqual(tree.with_number(size - 1, 0).numbers, tree.numbers[:-1] + (0,))
            self.assertEqual((len(tree.degrees), len(tree.table), len(tree.neighbours(0))), (size, size, tree.degrees[0]))
            self.assertEqual(str(tree).split(":")[0].split(), ["tree"] + [str(number) for number in tree])

    def test_0_9_a_place_has_a_degree_and_neighbours(self):
        for tree in random_trees(21, 20, range(1, 13), 0, 60):
            self.assertEqual(sum(tree.degrees), 2 * (tree.size - 1))
            for place in range(tree.size):
                for other in tree.neighbours(place):
                    self.assertIn(place, tree.neighbours(other))
                    self.assertIn((min(place, other), max(place, other)), tree.ties)

    def test_0_10_products_and_presses(self):
        for tree in random_trees(22, 20, range(1, 13), 0, 60):
            units = [tuple(int(place == other) for other in range(tree.size)) for place in range(tree.size)]
            row = tuple(place * place - 5 for place in range(tree.size))
            for place in range(tree.size):
                check_same(self, tree.press(row)[place], tree.product(row, units[place]))
                check_same(self, tree.product(units[place], units[place]), (-tree[place], 1))

    def test_0_11_a_bar_has_a_product_of_at_least_0(self):
        check_same(self, Tree((2,) * 5, ((0, 1), (0, 2), (0, 3), (0, 4))).product((2, 1, 1, 1, 1), (2, 1, 1, 1, 1)), (0, 1))
        check_same(self, Tree((0,), ()).product((1,), (1,)), (0, 1))

    def test_0_12_the_table_has_the_products_of_unit_rows(self):
        for tree in random_trees(23, 10, range(1, 13), 0, 60):
            units = [tuple(int(place == other) for other in range(tree.size)) for place in range(tree.size)]
            for one in range(tree.size):
                for other in range(tree.size):
                    check_same(self, (tree.table[one][other], 1), tree.product(units[one], units[other]))

    def test_0_13_each_class_has_one_boxed_row(self):
        for tree in (LINE, Tree.line((2, 2)), Tree((1,), ()), Tree.star(2, ((2,), (2,), (3,)))):
            whole = definite.determinant_of(tree)
            found = groups.classes_of(tree)
            self.assertEqual((len(found), found[0]), (whole, (0,) * tree.size))
            for class_ in found:
                row = groups.boxed_row(tree, class_)
                check_same(self, row, tuple(fractions.lowest(part, whole) for part in class_))
                self.assertIs(duals.is_dual(tree, row), True)
                self.assertTrue(all(fractions.compare(0, entry) <= 0 and fractions.compare(entry, 1) < 0 for entry in row))

    def test_0_14_k_and_worths(self):
        for tree in random_trees(25, 40, range(1, 9), 1, 4):
            if definite.is_definite(tree):
                k = depth.k_row(tree)
                check_same(self, tree.press(k), tuple((number - 2, 1) for number in tree))
                for place in range(tree.size):
                    unit = tuple(int(place == other) for other in range(tree.size))
                    check_same(self, tame.worth(tree, unit), 1)

    def test_0_18_each_definite_tree_has_one_of_two_papers(self):
        for tree in random_trees(26, 60, range(1, 9), 1, 4) + [WILD, TWOS, ONE]:
            if definite.is_definite(tree):
                word, shown = tame.tame_paper(tree)
                self.assertEqual(word, "steps" if tame.is_tame(tree) else "sink")
                self.assertIs(tame.is_tame_paper(tree, (word, shown)), True)
                self.assertIs(tame.is_tame_paper(tree, ("sink" if word == "steps" else "steps", shown)), False)

    def test_0_20_one_least_tree(self):
        for tree in random_trees(27, 60, range(1, 9), 1, 3):
            if definite.is_definite(tree):
                for place in kin.takeable(tree):
                    self.assertIs(trees.are_alike(kin.least_tree(kin.taken_down(tree, place)), kin.least_tree(tree)), True)

    def test_0_21_what_is_not_true(self):
        self.assertTrue(TWOS[0] < TWOS.degrees[0] and tame.is_tame(TWOS))
        one, other = Tree((1, 2, 3, 7), ((0, 1), (0, 2), (0, 3))), Tree.line((2, 2, 2, 1))
        self.assertEqual((definite.determinant_of(one), definite.determinant_of(other), one.size), (1, 1, other.size))
        self.assertIs(kin.are_kin(one, other), False)

    def test_0_17_each_tree_has_one_of_two_papers(self):
        for tree in random_trees(24, 40, range(1, 13), 0, 3) + [FORTY]:
            word, shown = definite.definite_paper(tree)
            self.assertEqual(word, "pivots" if definite.is_definite(tree) else "bar")
            self.assertIs(definite.is_definite_paper(tree, (word, shown)), True)
            other = "bar" if word == "pivots" else "pivots"
            self.assertIs(definite.is_definite_paper(tree, (other, shown)), False)


if __name__ == "__main__":
    unittest.main()
