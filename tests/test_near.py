"""Stage 14: [14.1] to [14.7], with [0.4] to [0.7], for tametrees.low.near."""

import math
import random
import unittest
from fractions import Fraction

from tametrees.errors import InvalidClass, InvalidNumber, InvalidTree, Refused, TooMany
from tametrees.low.lifts import Lifts
from tametrees.low.near import MAX_LEVEL, MAX_LIFT, lifted_row, near_count, near_places, tau, tau_code
from tametrees.low.pieces import least_level, low_rows, piece_counts, stair_code
from tametrees.low.stars import star_tree, triple_count, triple_star
from tametrees.rows.depth import k_row
from tametrees.rows.tame import is_tame
from tametrees.trees.definite import determinant_of, is_definite
from tametrees.trees.groups import classes_of
from tametrees.trees.kin import put_at_tie
from tametrees.trees.trees import Tree, made_tree
from tests.helpers import (
    BIG, LONG, NO_VALUE, TOO_BIG, check_error, check_same, definite_trees, lifted_by_steps, made_line, made_star, odd_values, put_up_often,
    quiet_by_steps, some_classes, wild_trees, worth_in_by_numbers,
)

ONE, TWO, THREE, LINE = Tree((1,), ()), Tree((2,), ()), Tree((3,), ()), Tree.line((2, 2))
SEVEN, BARRED, OVER = Tree.star(1, ((2,), (3,), (7,))), Tree.line((1, 1)), Tree.line((6, 2, 37))
ZERO = (0, 0, 0, 0)
# Without a near place.
PAIR = Tree((2, 2, 2, 2, 4, 2, 2, 2, 2, 4), ((0, 1), (0, 2), (0, 3), (0, 4), (4, 9), (5, 6), (5, 7), (5, 8), (5, 9)))
FOUR = (lifted_row, tau, tau_code, near_count)


def classed_trees(seed, count, sizes=range(1, 8), most=60):
    return definite_trees(seed, count, sizes, 1, 4, most) + [tree for tree in wild_trees() if determinant_of(tree) <= 200]


def sample(seed, count, many=2):
    """Pairs of a tree and a class."""
    source = random.Random(seed)
    return [(tree, class_) for tree in classed_trees(seed, count) for class_ in some_classes(source, tree, many, classes_of(tree))]


def with_number(tree, place, number):
    return made_tree(tree.numbers[:place] + (number,) + tree.numbers[place + 1:], tree.ties)


def k_entry(tree, place):
    return -Fraction(*k_row(tree)[place])


def code_of_values(values, level):
    """The code of the stair of the stretches of indices, by the words of [14.5] and [13.4]."""
    def codes(spots, step):
        stretches = []
        for spot in spots:
            if values[spot] <= step:
                if stretches and stretches[-1][-1] == spot - 1:
                    stretches[-1].append(spot)
                else:
                    stretches.append([spot])
        return sorted((step,) + sum(codes(part, step - 1), ()) for part in stretches)
    return sum(codes(range(len(values)), level), ())


class NearPlaces(unittest.TestCase):
    def test_the_bounds(self):
        check_same(self, (MAX_LIFT, MAX_LEVEL), (5000, 100))

    def test_14_1_near_places(self):
        for tree in classed_trees(401, 60) + [PAIR]:
            expected = [place for place in range(tree.size) if is_tame(with_number(tree, place, 1000))]
            check_same(self, near_places(tree), tuple(expected))
            for place in range(tree.size):
                for number in (1001, 5000, LONG):
                    self.assertEqual(is_tame(with_number(tree, place, number)), place in expected)

    def test_all_places_of_a_tame_tree_are_near(self):
        trees = [tree for tree in classed_trees(402, 40) if is_tame(tree)] + [ONE, TWO, made_line((2,) * 40), Tree.line((2, 1, 3))]
        for tree in trees:
            check_same(self, near_places(tree), tuple(range(tree.size)))

    def test_some_places_or_none(self):
        check_same(self, near_places(PAIR), ())
        check_same(self, near_places(SEVEN), (0,))
        legs = Tree.star(2, ((2, 2), (2, 2), (2, 3)))
        self.assertIn(0, near_places(legs))
        higher = put_up_often(random.Random(403), PAIR, 10)
        self.assertEqual(near_places(higher), ())

    def test_numbers_above_1000(self):
        # The tree is definite only as long as the number of the last place is above 1806.
        tree = made_star(1, (2, 3, 7, 43, 1807))
        self.assertEqual(determinant_of(tree), 1)
        self.assertIs(is_definite(with_number(tree, 5, 1000)), False)
        check_same(self, near_places(tree), (0,))
        check_error(self, Refused, ("near",), near_count, tree, 5, (0,) * 6)
        check_same(self, near_places(made_tree((400,), ())), (0,))


class LiftedRows(unittest.TestCase):
    def test_14_2_lifted_rows(self):
        source = random.Random(404)
        for tree, class_ in sample(405, 40):
            for place in source.sample(range(tree.size), min(3, tree.size)):
                for number in (0, 1, 2, source.randint(3, 30)):
                    check_same(self, lifted_row(tree, place, class_, number), lifted_by_steps(tree, place, class_, number))
                check_same(self, lifted_row(tree, place, class_, 0), quiet_by_steps(tree, class_))

    def test_lifted_rows_where_places_were_put_up(self):
        source = random.Random(406)
        for tree in classed_trees(407, 25, range(1, 5)):
            tree = put_up_often(source, tree, source.randint(1, 5))
            for class_ in some_classes(source, tree, 2, classes_of(tree)):
                for place in {0, tree.size // 2, tree.size - 1}:
                    for number in (0, 1, source.randint(2, 12)):
                        expected = lifted_by_steps(tree, place, class_, number)
                        check_same(self, lifted_row(tree, place, class_, number), expected)
                        check_same(self, tau(tree, place, class_, number)[number], worth_in_by_numbers(tree, class_, expected))

    def test_the_number_200(self):
        for tree, place in ((SEVEN, 0), (SEVEN, 3), (ONE, 0), (LINE, 1), (Tree.star(4, ((2,),) * 7), 3)):
            zero = (0,) * tree.size
            check_same(self, lifted_row(tree, place, zero, 200), lifted_by_steps(tree, place, zero, 200))
            self.assertEqual(len(tau(tree, place, zero, 200)), 201)
        check_same(self, lifted_row(ONE, 0, (0,), 200), (200,))
        check_same(self, lifted_row(SEVEN, 0, ZERO, 200), (200, 100, 67, 29))

    def test_rows_that_need_very_many_steps(self):
        # The row at the middle needs a multiple of 2, 3, 7 and 43 here.
        tree = made_star(1, (2, 3, 7, 43, 1807))
        check_same(self, lifted_row(tree, 5, (0,) * 6, 200), (361200, 180600, 120400, 51600, 8400, 200))
        tower = Tree.line((2, 1))
        for _ in range(38):
            tower = put_at_tie(tower, *tower.ties[-1])
        row = lifted_row(tower, 0, (0,) * 40, 7)
        self.assertEqual(row[0], 7)
        presses = [press for press, _ in tower.press(row)]
        self.assertTrue(all(press <= 0 for press in presses[1:]))
        self.assertEqual(len(tau(tower, 39, (0,) * 40, 200)), 201)


class Tau(unittest.TestCase):
    def test_14_3_worths_of_lifted_rows(self):
        source = random.Random(408)
        for tree, class_ in sample(409, 30):
            place = source.randrange(tree.size)
            found = tau(tree, place, class_, 9)
            check_same(self, found, tuple(worth_in_by_numbers(tree, class_, lifted_by_steps(tree, place, class_, i)) for i in range(10)))
            check_same(self, tau(tree, place, class_, 0), found[:1])

    def test_14_3_least_worths_at_near_places(self):
        compared = 0
        for tree, class_ in sample(410, 30, 1):
            low = quiet_by_steps(tree, class_)
            try:
                rows = low_rows(tree, class_, 3)
            except TooMany:
                continue
            for place in near_places(tree):
                for number, value in enumerate(tau(tree, place, class_, 12)):
                    here = [worth_in_by_numbers(tree, class_, row) for row in rows if row[place] == low[place] + number]
                    self.assertEqual(min(here, default=None), value if value <= 3 else None)
                    compared += value <= 3
        self.assertGreater(compared, 200)

    def test_14_4_no_falls_from_minus_k_on(self):
        for tree, class_ in sample(411, 30):
            for place in near_places(tree):
                found = tau(tree, place, class_, 60)
                for i in range(60):
                    if i >= k_entry(tree, place):
                        self.assertGreaterEqual(found[i + 1], found[i])

    def test_places_that_are_not_near_have_tau_too(self):
        self.assertEqual(len(tau(PAIR, 3, (0,) * 10, 30)), 31)
        self.assertEqual(near_places(PAIR), ())
        check_same(self, tau(SEVEN, 3, ZERO, 4), tuple(worth_in_by_numbers(SEVEN, ZERO, lifted_by_steps(SEVEN, 3, ZERO, i)) for i in range(5)))


class Codes(unittest.TestCase):
    def test_14_5_codes_by_words(self):
        for tree, class_ in sample(412, 25, 1):
            for place in near_places(tree)[:2]:
                values = tau(tree, place, class_, 100)
                for level in range(min(values) - 2, min(min(values) + 5, values[-1])):
                    expected = code_of_values(values, level) if level >= min(values) else ()
                    check_same(self, tau_code(tree, place, class_, level), expected)

    def test_14_6_codes_of_pieces(self):
        compared = 0
        for tree, class_ in sample(413, 40):
            try:
                low, counts = least_level(tree, class_), piece_counts(tree, class_, 1)
            except TooMany:
                continue
            for place in near_places(tree):
                self.assertEqual(min(tau(tree, place, class_, max(1, math.ceil(k_entry(tree, place))))), low)
                for level in range(low - 1, 2):
                    check_same(self, tau_code(tree, place, class_, level), stair_code(tree, class_, level))
                    compared += 1
                self.assertEqual(tau_code(tree, place, class_, 1).count(1), counts[-1])
        self.assertGreater(compared, 300)

    def test_the_level_100_and_levels_far_below(self):
        code = tau_code(SEVEN, 0, ZERO, 100)
        check_same(self, code, tuple(range(100, -1, -1)) + (0,))
        check_same(self, tau_code(ONE, 0, (0,), 100), tuple(range(100, -1, -1)))
        for level in (-1, -2, -1000, -BIG):
            check_same(self, tau_code(SEVEN, 0, ZERO, level), ())
        for tree, class_ in sample(414, 12, 1):
            for place in near_places(tree)[:1]:
                try:
                    self.assertEqual(tau_code(tree, place, class_, 100)[0], 100)
                except TooMany as error:
                    self.assertEqual(error.limit, 5000)

    def test_deep_stairs(self):
        tree = made_star(1, (2, 3, 7, 43))
        self.assertEqual(determinant_of(tree), 1)
        values = tau(tree, 0, (0,) * 5, 200)
        code = tau_code(tree, 0, (0,) * 5, 5)
        self.assertEqual((code[0], min(code) <= min(values)), (5, True))
        self.assertEqual(near_count(tree, 0, (0,) * 5), sum_over_levels(tree, (0,) * 5, 0))


def sum_over_levels(tree, class_, place):
    """The count by the words of [14.6]: level by level, over all tau to where it no longer falls."""
    lifts, values = Lifts(tree, place, class_), []
    for _ in range(max(1, math.ceil(k_entry(tree, place))) + 1):
        values.append(lifts.worth_now())
        lifts.go_on(1)
    total = -min(values)
    for level in range(min(values), max(values) + 1):
        starts = [i for i, value in enumerate(values) if value <= level and (i == 0 or values[i - 1] > level)]
        total += len(starts) - 1
    return total


def star_sum(number, pairs, last):
    """The sum of the falls of a star to an index."""
    rises = [1 + number * i - sum(-(-i * bottom // top) for top, bottom in pairs) for i in range(last)]
    return sum(-rise for rise in rises if rise < 0)


class Counts(unittest.TestCase):
    def test_14_6_counts_by_words(self):
        for tree, class_ in sample(415, 60):
            found = {near_count(tree, place, class_) for place in near_places(tree)}
            self.assertLessEqual(len(found), 1)
            for place in near_places(tree):
                check_same(self, near_count(tree, place, class_), sum_over_levels(tree, class_, place))

    def test_tame_trees(self):
        for tree, class_ in sample(416, 40):
            if is_tame(tree):
                self.assertEqual(near_count(tree, 0, class_), -least_level(tree, class_))

    def test_places_put_up_keep_counts(self):
        source = random.Random(417)
        for tree, class_ in sample(418, 15, 1):
            if not any(class_) and near_places(tree):
                higher = put_up_often(source, tree, 4)
                place = near_places(tree)[0]
                self.assertIn(place, near_places(higher))
                self.assertEqual(near_count(higher, place, (0,) * higher.size), near_count(tree, place, class_))


class Bounds(unittest.TestCase):
    def test_k_just_at_5000_and_above(self):
        entries = {}
        for p in range(2, 60):
            for q in range(p + 1, 60):
                for r in range(q + 1, 60):
                    # For these stars the entry of -K at the middle is told by the three numbers.
                    entry = 1 + p * q * r - q * r - p * r - p * q
                    if math.gcd(p, q) == math.gcd(p, r) == math.gcd(q, r) == 1 and 4850 < entry < 5150:
                        entries[entry] = (p, q, r)
        below, above = 0, 0
        for entry in sorted(entries):
            try:
                tree = star_tree(*triple_star(*entries[entry]))
            except TooMany:
                continue
            zero = (0,) * tree.size
            self.assertEqual(k_entry(tree, 0), entry)
            if entry <= 5000 and below < 2:
                self.assertEqual(near_count(tree, 0, zero), triple_count(*entries[entry]))
                below += 1
            if entry > 5000 and above < 2:
                check_error(self, TooMany, 5000, near_count, tree, 0, zero)
                check_error(self, TooMany, 5000, tau_code, tree, 0, zero, -BIG)
                self.assertEqual(len(tau(tree, 0, zero, 200)), 201)
                above += 1
        self.assertEqual((below, above), (2, 2))

    def test_k_of_just_5000_and_of_a_little_more(self):
        tree = star_tree(1, ((3, 1), (70, 29), (111, 28)))
        zero = (0,) * tree.size
        self.assertEqual(k_entry(tree, 0), 5000)
        check_same(self, near_count(tree, 0, zero), star_sum(1, ((3, 1), (70, 29), (111, 28)), 5000))
        self.assertEqual(tau_code(tree, 0, zero, tau(tree, 0, zero, 9)[9] - 9999), ())
        pairs = ((7, 5), (23, 11), (192, 155))
        tree = star_tree(2, pairs)
        self.assertEqual(k_entry(tree, 0), 4999 + Fraction(1, 5))
        check_same(self, near_count(tree, 0, (0,) * tree.size), star_sum(2, pairs, 5000))
        tree = star_tree(1, ((4, 1), (83, 25), (185, 83)))
        self.assertEqual(k_entry(tree, 0), 5000 + Fraction(2, 9))
        check_error(self, TooMany, 5000, near_count, tree, 0, (0,) * tree.size)
        check_error(self, TooMany, 5000, tau_code, tree, 0, (0,) * tree.size, -BIG)

    def test_tau_that_is_above_the_level_from_5000_on(self):
        tree = made_tree((5, 4, 2, 3, 3, 3, 3, 6, 2, 2, 2, 3, 4, 2, 2, 1), (
            (0, 2), (1, 4), (2, 3), (3, 5), (4, 6), (5, 7), (6, 8), (7, 12), (8, 9), (9, 10), (10, 11), (11, 13), (12, 15), (13, 14), (14, 15)))
        zero = (0,) * 16
        lifts = Lifts(tree, 15, zero)
        lifts.go_on(4999)
        self.assertEqual(lifts.worth_now(), 88)
        lifts.go_on(1)
        self.assertEqual(lifts.worth_now(), 89)
        check_same(self, tau_code(tree, 15, zero, 88)[:2], (88, 87))
        check_error(self, TooMany, 5000, tau_code, tree, 15, zero, 89)

    def test_tau_of_5000(self):
        found = 0
        tower = ONE
        for _ in range(17):
            tower = put_at_tie(tower, *tower.ties[-1]) if tower.ties else Tree.line((2, 1))
            zero, place = (0,) * tower.size, tower.size - 1
            lifts = Lifts(tower, place, zero)
            lifts.go_on(5000)
            last = lifts.worth_now()
            if last <= 100:
                check_error(self, TooMany, 5000, tau_code, tower, place, zero, last)
                check_error(self, TooMany, 5000, tau_code, tower, place, zero, 100)
                self.assertEqual(tau_code(tower, place, zero, last - 1)[0], last - 1)
                check_same(self, near_count(tower, place, zero), 0)
                found += 1
        self.assertGreater(found, 2)


class Errors(unittest.TestCase):
    def test_no_trees(self):
        for value in odd_values():
            if not isinstance(value, Tree):
                check_error(self, InvalidTree, NO_VALUE, near_places, value)
                for call in (lifted_row, tau, tau_code):
                    check_error(self, InvalidTree, NO_VALUE, call, value, value, value, value)
                check_error(self, InvalidTree, NO_VALUE, near_count, value, value, value)

    def test_trees_that_are_not_classed(self):
        for tree, kind, kept in ((BARRED, Refused, ("bar",)), (Tree((0,), ()), Refused, ("bar",)), (OVER, TooMany, 400), (made_line((60,) * 12), TooMany, 400)):
            check_error(self, kind, kept, near_places, tree)
            for call in (lifted_row, tau, tau_code):
                check_error(self, kind, kept, call, tree, -1, None, None)
            check_error(self, kind, kept, near_count, tree, -1, None)

    def test_the_first_wrong_argument_is_told(self):
        for place in (-1, 4, True, None, "0", (0,), BIG, LONG):
            for call in (lifted_row, tau, tau_code):
                check_error(self, InvalidNumber, place, call, SEVEN, place, None, None)
            check_error(self, InvalidNumber, place, near_count, SEVEN, place, None)
        for class_ in (None, (1, 0, 0, 0), [0, 0, 0, 0], (0, 0, 0), (0, 0, 0, False)):
            for call in (lifted_row, tau, tau_code):
                check_error(self, InvalidClass, NO_VALUE, call, SEVEN, 1, class_, None)
            check_error(self, InvalidClass, NO_VALUE, near_count, SEVEN, 1, class_)
        for value in odd_values():
            for call in (lifted_row, tau):
                if type(value) is not int or not 0 <= value <= 200:
                    check_error(self, InvalidNumber, value, call, SEVEN, 1, ZERO, value)
            if type(value) is not int or value > 100 or value <= -TOO_BIG:
                # The place is not near, but the level comes first.
                check_error(self, InvalidNumber, value, tau_code, SEVEN, 1, ZERO, value)

    def test_numbers_just_out_of_bounds(self):
        for call in (lifted_row, tau):
            for value in (-1, 201):
                check_error(self, InvalidNumber, value, call, SEVEN, 0, ZERO, value)
        check_error(self, InvalidNumber, 101, tau_code, SEVEN, 0, ZERO, 101)
        check_error(self, InvalidNumber, -TOO_BIG, tau_code, SEVEN, 0, ZERO, -TOO_BIG)

    def test_near_comes_ahead_of_5000(self):
        tree = made_star(1, (2, 3, 7, 43, 1807))
        check_error(self, Refused, ("near",), tau_code, tree, 1, (0,) * 6, 0)
        check_error(self, TooMany, 5000, tau_code, tree, 0, (0,) * 6, 0)
        for place in range(10):
            check_error(self, Refused, ("near",), near_count, PAIR, place, (0,) * 10)
            check_error(self, Refused, ("near",), tau_code, PAIR, place, (0,) * 10, -5)


class NotTrue(unittest.TestCase):
    def test_14_7(self):
        self.assertEqual((is_definite(PAIR), near_places(PAIR)), (True, ()))
        found = tau(SEVEN, 0, ZERO, 6)
        self.assertTrue(any(found[i] < found[i + 1] and any(found[j] > found[j + 1] for j in range(i, 6)) for i in range(6)))
        star = Tree.star(2, ((2,), (2,), (2,)))
        self.assertNotEqual(tau(star, 0, ZERO, 3), tau(star, 1, ZERO, 3))


if __name__ == "__main__":
    unittest.main()
