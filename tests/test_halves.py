"""Stage 19: [19.1] to [19.7], with [0.4] to [0.7], for tametrees.odd.halves."""

import itertools
import random
import unittest
from fractions import Fraction

from tametrees.errors import InvalidOperation, InvalidTree, Refused, TooMany
from tametrees.odd.halves import MAX_LOTS, is_wu_lot, wu_class, wu_lots, wu_number
from tametrees.odd.heights import height, is_highest, odd_class
from tametrees.rows.tame import is_tame
from tametrees.trees.definite import determinant_of
from tametrees.trees.groups import class_opposite, class_sum, halves_of
from tametrees.trees.kin import takeable, taken_down
from tametrees.trees.trees import Tree, made_tree
from tests.helpers import (
    LONG, NO_VALUE, check_error, check_same, definite_trees, k_by_elimination, made_line, made_star, odd_values, press_by_ties, product_by_ties,
    put_up_often, random_trees, wild_trees,
)

ONE, TWO, THREE, LINE = Tree((1,), ()), Tree((2,), ()), Tree((3,), ()), Tree.line((2, 2, 2))
FORK, SEVEN = Tree((2, 2, 2, 2), ((0, 1), (0, 2), (0, 3))), Tree.star(1, ((2,), (3,), (7,)))
BARRED, OVER, NIL = Tree.line((1, 1)), Tree.line((6, 2, 37)), Tree((0,), ())


def lot_row(tree, lot):
    return tuple(int(place in lot) for place in range(tree.size))


def is_lot_by_words(tree, lot):
    return all((press - number) % 2 == 0 for press, number in zip(press_by_ties(tree, lot_row(tree, lot)), tree))


def lots_by_trying(tree):
    lots = [lot for many in range(tree.size + 1) for lot in itertools.combinations(range(tree.size), many)]
    return tuple(sorted(lot for lot in lots if is_lot_by_words(tree, lot)))


def any_trees(seed, count):
    return random_trees(seed, count, range(1, 9), 0, 5) + [ONE, TWO, THREE, NIL, LINE, FORK, SEVEN, BARRED]


class Lots(unittest.TestCase):
    def test_the_bound(self):
        check_same(self, MAX_LOTS, 400)

    def test_19_1_all_wu_lots(self):
        for tree in any_trees(901, 80):
            found = wu_lots(tree)
            check_same(self, found, lots_by_trying(tree))
            self.assertGreaterEqual(len(found), 1)
            for lot in found:
                self.assertFalse([tie for tie in tree.ties if tie[0] in lot and tie[1] in lot])

    def test_19_2_how_many(self):
        for tree in any_trees(902, 40):
            even = sum(all(press % 2 == 0 for press in press_by_ties(tree, row)) for row in itertools.product((0, 1), repeat=tree.size))
            self.assertEqual(len(wu_lots(tree)), even)
        for tree in definite_trees(903, 60, range(1, 10), 1, 5, 400):
            self.assertEqual(len(wu_lots(tree)), len(halves_of(tree)))
            if determinant_of(tree) % 2:
                self.assertEqual(len(wu_lots(tree)), 1)

    def test_lots_are_judged(self):
        for tree in any_trees(904, 30):
            for many in range(min(tree.size, 5) + 1):
                for lot in itertools.combinations(range(tree.size), many):
                    check_same(self, is_wu_lot(tree, lot), is_lot_by_words(tree, lot))
                    check_same(self, is_wu_lot(tree, list(lot)), False)
                    if many > 1:
                        check_same(self, is_wu_lot(tree, lot[::-1]), False)
                        check_same(self, is_wu_lot(tree, lot + lot[-1:]), False)
        for tree in (FORK, SEVEN, NIL, made_line((2,) * 40)):
            for value in odd_values():
                found = is_wu_lot(tree, value)
                expected = value in lots_by_trying(tree) if tree.size < 9 and type(value) is tuple and all(type(part) is int for part in value) else None
                self.assertIs(type(found), bool)
                self.assertTrue(expected is None or found == expected)
        for value in ((True,), (1, True), (LONG,), (-1,), (1, 2, 4), ((1, 2),), "12", {1: 2}, None, 12):
            check_same(self, is_wu_lot(FORK, value), False)

    def test_one_place_and_no_place(self):
        check_same(self, (wu_lots(ONE), wu_lots(TWO), wu_lots(THREE), wu_lots(NIL)), (((0,),), ((), (0,)), ((0,),), ((), (0,))))
        check_same(self, wu_lots(made_tree((LONG,), ())), ((0,),) if LONG % 2 else ((), (0,)))

    def test_just_400_lots_and_more(self):
        # A star of even numbers has, with n legs of one place, 2 ** (n - 1) Wu lots.
        for legs in (8, 9):
            tree = made_star(2, (2,) * legs)
            check_same(self, (len(wu_lots(tree)), wu_lots(tree)), (2 ** (legs - 1), lots_by_trying(tree)))
        for legs in (10, 11, 39):
            tree = made_star(2, (2,) * legs)
            check_error(self, TooMany, 400, wu_lots, tree)
            self.assertIs(is_wu_lot(tree, ()), True)
            check_same(self, wu_number(tree, ()), -tree.size)
            check_same(self, wu_number(tree, (1, 2)), 4 - tree.size)

    def test_trees_of_forty_places(self):
        for tree in (made_line((2,) * 40), made_line((1, 2) * 20), made_line((LONG,) * 40), put_up_often(random.Random(905), SEVEN, 36)):
            found = wu_lots(tree)
            self.assertTrue(found and all(is_lot_by_words(tree, lot) and is_wu_lot(tree, lot) for lot in found))
            self.assertEqual(list(found), sorted(set(found)))


class Numbers(unittest.TestCase):
    def test_19_3_wu_numbers(self):
        for tree in any_trees(906, 60):
            for lot in wu_lots(tree):
                found = wu_number(tree, lot)
                check_same(self, found, sum(tree[place] for place in lot) - tree.size)
                row = lot_row(tree, lot)
                self.assertEqual(found, -(tree.size + product_by_ties(tree, row, row)))

    def test_19_4_places_taken_down(self):
        source = random.Random(907)
        for tree in any_trees(908, 40) + wild_trees():
            higher = put_up_often(source, tree, source.randint(1, 6))
            expected = sorted(wu_number(tree, lot) for lot in wu_lots(tree))
            self.assertEqual(sorted(wu_number(higher, lot) for lot in wu_lots(higher)), expected)
            for place in takeable(tree):
                lower = taken_down(tree, place)
                self.assertEqual(sorted(wu_number(lower, lot) for lot in wu_lots(lower)), expected)

    def test_values_that_are_no_wu_lot(self):
        for value in odd_values() + [[1, 2], (2, 1), (1,), (0,), (1, 2, 3), (1, 2, 2), (1, 4)]:
            if value not in ((), (1, 2), (1, 3), (2, 3)) or type(value) is not tuple:
                for call in (wu_number, wu_class):
                    check_error(self, InvalidOperation, NO_VALUE, call, FORK, value)


class Classes(unittest.TestCase):
    def test_19_5_wu_classes(self):
        for tree in definite_trees(909, 50, range(1, 8), 1, 5, 400) + [FORK, SEVEN, LINE]:
            whole, found = determinant_of(tree), []
            for lot in wu_lots(tree):
                half = [(x - y) / 2 for x, y in zip(lot_row(tree, lot), k_by_elimination(tree))]
                expected = tuple(int(whole * (entry - entry.__floor__())) for entry in half)
                check_same(self, wu_class(tree, lot), expected)
                check_same(self, wu_class(tree, lot), odd_class(tree, tuple(press_by_ties(tree, lot_row(tree, lot)))))
                found.append(wu_class(tree, lot))
            self.assertEqual(len(set(found)), len(found))
            for class_ in found:
                difference = class_sum(tree, class_, class_opposite(tree, found[0]))
                self.assertIn(difference, halves_of(tree))

    def test_19_6_tame_trees(self):
        compared = 0
        for tree in definite_trees(910, 60, range(1, 7), 1, 4, 100) + [FORK, LINE, SEVEN] + wild_trees()[:6]:
            for lot in wu_lots(tree):
                try:
                    class_ = wu_class(tree, lot)
                    found = Fraction(*height(tree, class_))
                    highest = is_highest(tree, class_, tuple(press_by_ties(tree, lot_row(tree, lot))))
                except TooMany:
                    continue
                self.assertGreaterEqual(found, Fraction(-wu_number(tree, lot), 4))
                self.assertEqual(highest, found == Fraction(-wu_number(tree, lot), 4))
                if is_tame(tree):
                    self.assertIs(highest, True)
                    compared += 1
        self.assertGreater(compared, 60)

    def test_the_determinant_400_and_above(self):
        full = made_tree((400,), ())
        check_same(self, [wu_class(full, lot) for lot in wu_lots(full)], [wu_class(full, ()), wu_class(full, (0,))])
        check_error(self, TooMany, 400, wu_class, made_tree((402,), ()), None)
        check_error(self, TooMany, 400, wu_class, OVER, ())
        check_same(self, wu_number(OVER, wu_lots(OVER)[0]), sum(OVER[place] for place in wu_lots(OVER)[0]) - 3)


class Errors(unittest.TestCase):
    def test_no_trees(self):
        for value in odd_values():
            if not isinstance(value, Tree):
                check_error(self, InvalidTree, NO_VALUE, wu_lots, value)
                for call in (is_wu_lot, wu_number, wu_class):
                    check_error(self, InvalidTree, NO_VALUE, call, value, value)

    def test_trees_that_are_not_definite(self):
        for tree in (BARRED, NIL, made_star(39, (1,) * 39)):
            check_error(self, Refused, ("bar",), wu_class, tree, None)
            lot = wu_lots(tree)[0]
            check_error(self, Refused, ("bar",), wu_class, tree, lot)
            self.assertIs(is_wu_lot(tree, lot), True)
            self.assertIs(type(wu_number(tree, lot)), int)


class NotTrue(unittest.TestCase):
    def test_19_7(self):
        self.assertEqual(wu_lots(LINE), ((), (0, 2)))
        self.assertIs(is_wu_lot(SEVEN, (0, 2, 3)), False)
        presses = tuple(press_by_ties(SEVEN, lot_row(SEVEN, (1, 2, 3))))
        self.assertIs(is_highest(SEVEN, (0,) * 4, presses), False)
        self.assertEqual((determinant_of(SEVEN), determinant_of(ONE)), (1, 1))
        self.assertNotEqual(wu_number(SEVEN, (1, 2, 3)), wu_number(ONE, (0,)))


if __name__ == "__main__":
    unittest.main()
