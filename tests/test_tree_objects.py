"""Stage 2: the class Tree, with [0.2], [0.4], [0.7], [0.9], [0.10], [0.12] and [2.1]."""

import itertools
import operator
import unittest
from fractions import Fraction

from tametrees.errors import InvalidNumber, InvalidOperation, InvalidRow, InvalidTree
from tametrees.trees.trees import MAX_NUMBER, MAX_PLACES, Tree
from tests.helpers import (
    BIG, LONG, NO_VALUE, TOO_BIG, check_error, check_same, is_one_piece, kept_by, line_ties, made_line, made_star,
    neighbours_by_ties, odd_values, pair, press_by_ties, product_by_ties, random_trees, small_trees,
)

LINE = Tree.line((2, 3, 2))
STAR = Tree.star(2, ((2,), (3,), (2, 4)))
LONE = Tree((0,), ())
TWELVE = Tree.line((60, 0) * 6)
FORTY = made_star(99, (LONG,) + (61,) * 38)
ALL_SORTS = (LONE, LINE, STAR, TWELVE, FORTY, made_line(range(40)))
NO_PLACES = (None, True, False, "0", (), (0,), [0], {}, -1, 40, BIG, TOO_BIG, -LONG, (0, 1))


class Making(unittest.TestCase):
    def test_the_bounds(self):
        self.assertEqual((MAX_PLACES, MAX_NUMBER), (12, 60))
        self.assertEqual((type(MAX_PLACES), type(MAX_NUMBER)), (int, int))

    def test_what_is_passed_is_kept(self):
        for numbers, ties in (((0,), ()), ((60,), ()), ((2, 3, 2), ((0, 1), (1, 2))), ((0, 60, 1), ((0, 2), (1, 2))),
                              ((7,) * 12, tuple((0, place) for place in range(1, 12)))):
            tree = Tree(numbers, ties)
            check_same(self, tree.numbers, numbers)
            check_same(self, tree.ties, ties)

    def test_numbers_that_make_no_tree(self):
        for numbers in ((), (2,) * 13, (61,), (-1,), (2, 61, 2), (True,), (2, False), (None,), ("2",), ((2, 1),), (BIG,),
                        [2], "2", 2, None, True, {}, {0: 2}, LINE):
            size = len(numbers) if isinstance(numbers, (tuple, list, str, dict)) else 1
            with self.subTest(repr(numbers)):
                check_error(self, InvalidTree, NO_VALUE, Tree, numbers, line_ties(size))

    def test_ties_that_make_no_tree(self):
        wrong = (
            ((0, 1),), ((0, 1), (0, 1)), ((1, 2), (0, 1)), ((1, 0), (1, 2)), ((0, 1), (2, 1)), ((0, 0), (1, 2)),
            ((0, 1), (1, 3)), ((-1, 0), (0, 1)), ((0, 1), (0, 2), (1, 2)), ((False, 1), (1, 2)), ((0, True), (1, 2)),
            [(0, 1), (1, 2)], ([0, 1], [1, 2]), ((0, 1), [1, 2]), ((0, 1), (1, 2, 2)), ((0, 1), (1,)), ((0, 1), 2),
            ((0, 1), "12"), ((0, 1), None), "0-1 1-2", None, True, 2, {}, {(0, 1): 1, (1, 2): 1}, (), ((0, 1), (1, BIG)),
        )
        for ties in wrong:
            with self.subTest(repr(ties)):
                check_error(self, InvalidTree, NO_VALUE, Tree, (2, 2, 2), ties)
        for ties in (((0, 1),), ((0, 0),), [], None, (0,), ((),)):
            check_error(self, InvalidTree, NO_VALUE, Tree, (2,), ties)
        check_error(self, InvalidTree, NO_VALUE, Tree, (2, 2, 2, 2), ((0, 1), (0, 2), (1, 2)))
        check_error(self, InvalidTree, NO_VALUE, Tree, (2, 2), ())

    def test_just_the_choices_of_pairs_in_one_piece_make_a_tree(self):
        for size in range(1, 6):
            pairs = list(itertools.combinations(range(size), 2))
            for many in range(len(pairs) + 1):
                for ties in itertools.combinations(pairs, many):
                    if many == size - 1 and is_one_piece(size, ties):
                        self.assertEqual(Tree((1,) * size, ties).ties, ties)
                    else:
                        check_error(self, InvalidTree, NO_VALUE, Tree, (1,) * size, ties)

    def test_any_odd_values_are_refused(self):
        for value in odd_values():
            with self.subTest(repr(value)):
                if value not in ((0,), (1,)):
                    check_error(self, InvalidTree, NO_VALUE, Tree, value, ())
                if value != ():
                    check_error(self, InvalidTree, NO_VALUE, Tree, (2,), value)
                check_error(self, InvalidTree, NO_VALUE, Tree, value, value)

    def test_lines(self):
        for numbers in ((0,), (60,), (2, 3, 2), (0, 60), tuple(range(12))):
            tree = Tree.line(numbers)
            check_same(self, tree.numbers, numbers)
            check_same(self, tree.ties, line_ties(len(numbers)))
        for value in odd_values():
            if value not in ((0,), (1,), (0, 1), (1, 0), (1, 2), (2, 4)):
                with self.subTest(repr(value)):
                    check_error(self, InvalidTree, NO_VALUE, Tree.line, value)
        for value in ((2,) * 13, (61, 2), (2, -1), (2, True), (1, 2, (3, 1)), [2, 3]):
            check_error(self, InvalidTree, NO_VALUE, Tree.line, value)

    def test_stars(self):
        check_same(self, Tree.star(5, ()).ties, ())
        check_same(self, Tree.star(5, ()).numbers, (5,))
        check_same(self, STAR.numbers, (2, 2, 3, 2, 4))
        check_same(self, STAR.ties, ((0, 1), (0, 2), (0, 3), (3, 4)))
        wide = Tree.star(0, ((1, 2, 3), (4,), (5, 6), (7, 8, 9, 10, 60)))
        check_same(self, wide.numbers, (0, 1, 2, 3, 4, 5, 6, 7, 8, 9, 10, 60))
        check_same(self, wide.ties, ((0, 1), (0, 4), (0, 5), (0, 7), (1, 2), (2, 3), (5, 6), (7, 8), (8, 9), (9, 10), (10, 11)))
        self.assertEqual(Tree.star(2, ((3, 4),)), Tree.line((2, 3, 4)))
        self.assertEqual(len(Tree.star(2, ((2,),) * 11)), 12)

    def test_stars_that_are_none(self):
        for number in (-1, 61, True, False, None, "2", (2,), [2], (2, 1), BIG, LONG):
            check_error(self, InvalidTree, NO_VALUE, Tree.star, number, ())
            check_error(self, InvalidTree, NO_VALUE, Tree.star, number, ((2,),))
            check_error(self, InvalidTree, NO_VALUE, Tree.star, number, None)
        for legs in (((),), ((2,), ()), ((2,),) * 12, ((2,) * 12,), ((2,) * 6, (2,) * 6), ([2],), [(2,)], (2,), 2, None, True,
                     "2", ("2",), ((61,),), ((-1,),), ((True,),), (((2,),),), {}, {(2,): 1}, ((2,), None), (LINE,)):
            with self.subTest(repr(legs)):
                check_error(self, InvalidTree, NO_VALUE, Tree.star, 2, legs)

    def test_what_is_listed_stands_in_the_class_itself(self):
        names = ("line", "star", "numbers", "ties", "size", "degrees", "table", "neighbours", "press", "product", "part",
                 "with_number", "__getitem__", "__contains__", "__len__", "__iter__", "__eq__", "__str__")
        for name in names:
            self.assertIn(name, vars(Tree))


class Reading(unittest.TestCase):
    def test_sizes_degrees_and_neighbours(self):
        for tree in ALL_SORTS + tuple(random_trees(1, 20, range(1, 13), 0, 60)):
            check_same(self, tree.size, len(tree.numbers))
            check_same(self, len(tree), len(tree.numbers))
            check_same(self, tree.degrees, tuple(len(neighbours_by_ties(tree, place)) for place in range(len(tree))))
            for place in range(len(tree)):
                check_same(self, tree.neighbours(place), tuple(sorted(neighbours_by_ties(tree, place))))

    def test_tables(self):
        for tree in ALL_SORTS + tuple(random_trees(2, 10, range(1, 13), 0, 60)):
            places = range(tree.size)
            units = [tuple(int(place == other) for other in places) for place in places]
            expected = tuple(tuple(product_by_ties(tree, units[one], units[other]) for other in places) for one in places)
            check_same(self, tree.table, expected)

    def test_no_place(self):
        for tree in (LONE, LINE, TWELVE, FORTY):
            for value in NO_PLACES + (tree.size,):
                check_error(self, InvalidNumber, value, tree.neighbours, value)
                check_error(self, InvalidNumber, value, operator.getitem, tree, value)
                check_error(self, InvalidNumber, value, tree.with_number, value, 2)
                self.assertIs(value in tree, False)

    def test_places(self):
        for tree in ALL_SORTS:
            for place in range(len(tree)):
                check_same(self, tree[place], tree.numbers[place])
                self.assertIs(place in tree, True)
            self.assertIs(len(tree) in tree, False)

    def test_asking_takes_every_value(self):
        for tree in (LONE, LINE, FORTY):
            for value in odd_values():
                with self.subTest(repr(value)):
                    self.assertIs(value in tree, type(value) is int and 0 <= value < len(tree))
                    self.assertIs(value not in tree, not (type(value) is int and 0 <= value < len(tree)))
                    same = type(value) is Tree and (value.numbers, value.ties) == (tree.numbers, tree.ties)
                    self.assertIs(tree == value, same)
                    self.assertIs(tree != value, not same)

    def test_iterating_yields_the_numbers(self):
        for tree in ALL_SORTS:
            check_same(self, list(tree), list(tree.numbers))
            check_same(self, tuple(tree), tree.numbers)

    def test_equal_trees(self):
        self.assertTrue(LINE == Tree((2, 3, 2), ((0, 1), (1, 2))))
        self.assertFalse(LINE != Tree((2, 3, 2), ((0, 1), (1, 2))))
        for other in (Tree.line((2, 3, 3)), Tree((2, 3, 2), ((0, 1), (0, 2))), Tree.line((2, 3)), (2, 3, 2), None, "tree 2 3 2: 0-1 1-2"):
            self.assertIs(LINE == other, False)
            self.assertIs(other == LINE, False)
            self.assertIs(LINE != other, True)
        self.assertTrue(made_line((2, 3, 2)) == LINE and LINE == made_line((2, 3, 2)))

    def test_texts(self):
        self.assertEqual(str(LINE), "tree 2 3 2: 0-1 1-2")
        self.assertEqual(str(LONE), "tree 0")
        self.assertEqual(str(STAR), "tree 2 2 3 2 4: 0-1 0-2 0-3 3-4")
        self.assertEqual(str(made_line((100, 0) * 6)), "tree " + "100 0 " * 5 + "100 0: 0-1 1-2 2-3 3-4 4-5 5-6 6-7 7-8 8-9 9-10 10-11")

    def test_other_operators_are_refused(self):
        for sign in (operator.add, operator.sub, operator.mul, operator.lt, operator.le, operator.gt, operator.ge,
                     operator.mod, operator.and_, operator.or_, operator.floordiv, operator.pow):
            for value in (1, None, "a", LINE, (1,)):
                with self.assertRaises(TypeError):
                    sign(LINE, value)
                # A string before the sign of the rest is filled in by Python itself.
                if (sign, value) != (operator.mod, "a"):
                    with self.assertRaises(TypeError):
                        sign(value, LINE)
        for sign in (operator.neg, operator.pos, operator.invert, abs):
            with self.assertRaises(TypeError):
                sign(LINE)
        with self.assertRaises(TypeError):
            LINE[0] = 1
        with self.assertRaises(TypeError):
            LINE(1)

    def test_trees_do_not_change(self):
        for name, value in (("numbers", (1,)), ("ties", ()), ("size", 1), ("degrees", ()), ("table", ())):
            with self.assertRaises(AttributeError):
                setattr(LINE, name, value)
        LINE.part((0, 1)), LINE.with_number(0, 9), LINE.press((1, 2, 3)), list(LINE).append(4)
        self.assertEqual((LINE.numbers, LINE.ties), ((2, 3, 2), ((0, 1), (1, 2))))


ROWS = ((1, 1, 1), (0, 0, 0), (-1, 5, BIG), ((1, 2), (-3, 4), 7), ((BIG, 2), (1, BIG), -BIG), ((2, 1), (0, 1), 0))
NO_ROWS = (
    (), (1,), (1, 1), (1, 1, 1, 1), [1, 1, 1], "111", None, True, 3, {}, {0: 1, 1: 1, 2: 1}, (1, 1, True), (False, 1, 1),
    (1, None, 1), (1, "1", 1), (1, (2, 4), 1), (1, (1, 0), 1), (1, (1, -1), 1), (1, [1, 2], 1), (1, 1, TOO_BIG),
    (1, 1, (1, TOO_BIG)), (1, 1, (True, 2)), (1, 1, (1,)), (1, 1, ()), LINE,
)


def parts(row):
    return [Fraction(*entry) if isinstance(entry, tuple) else Fraction(entry) for entry in row]


class Rows(unittest.TestCase):
    def test_presses(self):
        for row in ROWS:
            check_same(self, LINE.press(row), tuple(pair(Fraction(x)) for x in press_by_ties(LINE, parts(row))))
        check_same(self, LONE.press((5,)), ((0, 1),))
        check_same(self, Tree((60,), ()).press(((1, 7),)), ((-60, 7),))

    def test_products(self):
        for one, other in itertools.product(ROWS, repeat=2):
            expected = Fraction(product_by_ties(LINE, parts(one), parts(other)))
            check_same(self, LINE.product(one, other), pair(expected))

    def test_presses_and_products_of_large_trees(self):
        for tree in (TWELVE, FORTY, made_line(range(40))):
            one = tuple((place - 3, 1 + place % 2) if place % 2 else place for place in range(tree.size))
            one = tuple(pair(Fraction(*x)) if isinstance(x, tuple) else x for x in one)
            other = tuple(BIG - place for place in range(tree.size))
            check_same(self, tree.press(one), tuple(pair(Fraction(x)) for x in press_by_ties(tree, parts(one))))
            check_same(self, tree.product(one, other), pair(Fraction(product_by_ties(tree, parts(one), parts(other)))))

    def test_the_product_is_the_sum_of_entries_times_presses(self):
        for tree in random_trees(3, 20, range(1, 13), 0, 60):
            one = tuple((place * 7) % 5 - 2 for place in range(tree.size))
            other = tuple((1, place + 2) for place in range(tree.size))
            total = sum(x * Fraction(*y) for x, y in zip(one, tree.press(other)))
            check_same(self, tree.product(one, other), pair(Fraction(total)))
            check_same(self, tree.product(other, one), pair(Fraction(total)))

    def test_values_that_are_no_rows(self):
        for value in NO_ROWS:
            with self.subTest(repr(value)):
                check_error(self, InvalidRow, NO_VALUE, LINE.press, value)
                check_error(self, InvalidRow, NO_VALUE, LINE.product, value, (1, 1, 1))
                check_error(self, InvalidRow, NO_VALUE, LINE.product, (1, 1, 1), value)
                check_error(self, InvalidRow, NO_VALUE, LINE.product, value, value)
        for value in odd_values():
            check_error(self, InvalidRow, NO_VALUE, LINE.press, value)
            check_error(self, InvalidRow, NO_VALUE, LINE.product, value, None)


class Others(unittest.TestCase):
    def test_parts(self):
        check_same(self, STAR.part((0, 3, 4)), Tree.line((2, 2, 4)))
        check_same(self, STAR.part((3,)), Tree((2,), ()))
        check_same(self, STAR.part((0, 1, 2, 3, 4)), STAR)
        check_same(self, Tree((5, 6, 7), ((0, 2), (1, 2))).part((1, 2)), Tree.line((6, 7)))
        check_same(self, FORTY.part(tuple(range(20))), made_star(99, (LONG,) + (61,) * 18))

    def test_just_the_choices_in_one_piece_are_parts(self):
        for tree in random_trees(4, 12, range(1, 8), 0, 60):
            for many in range(tree.size + 1):
                for places in itertools.combinations(range(tree.size), many):
                    names = {place: at for at, place in enumerate(places)}
                    ties = tuple((names[u], names[w]) for u, w in tree.ties if u in names and w in names)
                    if many and is_one_piece(many, ties):
                        check_same(self, tree.part(places), Tree(tuple(tree[place] for place in places), ties))
                    else:
                        check_error(self, InvalidOperation, NO_VALUE, tree.part, places)

    def test_places_that_are_no_part(self):
        for places in ((), (0, 0), (1, 0), (0, 2), (3,), (-1,), (0, 3), (True,), (False, 1), (0, True), [0], "0", {}, {0: 1},
                       None, True, 0, ("0",), (None,), ((0, 1),), (0, BIG), LINE):
            with self.subTest(repr(places)):
                check_error(self, InvalidOperation, NO_VALUE, LINE.part, places)

    def test_another_number(self):
        for number in (0, 1, 59, 60):
            check_same(self, LINE.with_number(1, number), Tree.line((2, number, 2)))
            check_same(self, LONE.with_number(0, number), Tree((number,), ()))
        check_same(self, LINE.with_number(0, 3).with_number(2, 4), Tree.line((3, 3, 4)))
        check_same(self, made_line((100,) * 40).with_number(39, 60), made_line((100,) * 39 + (60,)))

    def test_numbers_that_are_none(self):
        for number in (-1, 61, True, False, None, "2", (2,), (2, 1), [2], {}, BIG, TOO_BIG, -LONG):
            check_error(self, InvalidNumber, number, LINE.with_number, 1, number)
            check_error(self, InvalidNumber, number, FORTY.with_number, 39, number)
            check_error(self, InvalidNumber, 3, LINE.with_number, 3, number)
            check_error(self, InvalidNumber, True, LINE.with_number, True, number)
        self.assertEqual(kept_by(InvalidNumber(3)), ("given", 3))

    def test_results_can_be_passed_on(self):
        tree = made_line(range(50, 90))
        part = tree.part(tuple(range(1, 40)))
        self.assertEqual((part.size, part[38]), (39, 89))
        check_same(self, part.with_number(0, 7).part((0, 1)), made_line((7, 52)))
        check_same(self, part.press((1,) * 39)[0], (-50, 1))


class Trees(unittest.TestCase):
    def test_small_trees_are_as_many_as_there_are(self):
        self.assertEqual([len(list(small_trees(size, (1, 2)))) for size in (1, 2, 3, 4)], [2, 4, 24, 256])


if __name__ == "__main__":
    unittest.main()
