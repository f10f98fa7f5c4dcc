"""What the document promises over several stages: one count and one number on many roads, and what moves with names and places."""

import math
import random
import unittest
from fractions import Fraction

from tametrees.desk.desk import Desk
from tametrees.errors import NothingToUndo, TooMany
from tametrees.low.boxes import class_count, euler_numbers, sure_box
from tametrees.low.near import near_count, near_places, tau, tau_code
from tametrees.low.pieces import leaf_count, least_level, low_rows, piece_counts, stair_code, worth_in
from tametrees.low.stars import is_star_definite, star_count, star_tree, triple_count, triple_star
from tametrees.number.number import class_shares, number_by_classes, number_by_table
from tametrees.odd.halves import wu_class, wu_lots, wu_number
from tametrees.odd.heights import height
from tametrees.rows.depth import depth_of, k_row, share_of
from tametrees.rows.steps import least_cycle
from tametrees.rows.tame import is_tame, multiplicity
from tametrees.series.series import far_row, is_far, left_behind
from tametrees.text.texts import read_value, write_value
from tametrees.trees.chains import chain_fraction, chain_share, saw_sum
from tametrees.trees.definite import determinant_of
from tametrees.trees.groups import class_factors, class_product, class_sum, classes_of, place_class
from tametrees.trees.kin import are_kin, put_at_tie, takeable, taken_down
from tametrees.trees.trees import Tree, renamed
from tests.helpers import check_same, definite_trees, made_line, put_up_often, some_classes, sum_of_rows, wild_trees

SEVEN = Tree.star(1, ((2,), (3,), (7,)))


def told_or_none(call, *values):
    """What a call returns, or None if there is too much of it."""
    try:
        return call(*values)
    except TooMany:
        return None


def sample(seed, count, most=60, sizes=range(1, 8)):
    trees = definite_trees(seed, count, sizes, 1, 4, most)
    return trees + [tree for tree in wild_trees() if determinant_of(tree) <= most]


class OneCount(unittest.TestCase):
    def test_0_19_one_count_on_all_roads(self):
        source = random.Random(981)
        roads = {"euler": 0, "series": 0, "near": 0, "pieces": 0}
        for tree in sample(982, 80):
            for class_ in some_classes(source, tree, 2, classes_of(tree)):
                count = told_or_none(class_count, tree, class_)
                if count is None:
                    continue
                least, numbers = euler_numbers(tree, class_, 60)
                self.assertEqual(count, -least + sum(number - 1 for number in numbers))
                roads["euler"] += 1
                row = far_row(tree, class_)
                left = told_or_none(left_behind, tree, class_, row)
                if left is not None:
                    self.assertEqual(left, worth_in(tree, class_, row) + count)
                    roads["series"] += 1
                for place in near_places(tree):
                    self.assertEqual(near_count(tree, place, class_), count)
                    roads["near"] += 1
                counts = told_or_none(piece_counts, tree, class_, 2)
                if counts is not None and near_places(tree) and counts[-1] == 1:
                    self.assertEqual(numbers[:len(counts)], counts)
                    roads["pieces"] += 1
        self.assertTrue(min(roads.values()) > 100, roads)

    def test_falls_of_stars(self):
        source, compared = random.Random(983), 0
        while compared < 25:
            pairs = []
            for _ in range(source.randint(3, 5)):
                top = source.randint(2, 7)
                pairs.append((top, source.choice([bottom for bottom in range(1, top) if math.gcd(top, bottom) == 1])))
            number = source.randint(1, 3)
            if is_star_definite(number, tuple(pairs)):
                tree = told_or_none(star_tree, number, tuple(pairs))
                falls = told_or_none(star_count, number, tuple(pairs))
                count = told_or_none(class_count, tree, (0,) * tree.size) if tree and determinant_of(tree) <= 400 else None
                if falls is not None and count is not None:
                    self.assertEqual(falls, count)
                    compared += 1

    def test_triples_on_all_roads(self):
        for p, q, r in ((2, 3, 5), (2, 3, 7), (2, 3, 11), (2, 3, 13), (3, 4, 5), (2, 5, 7), (3, 5, 7), (2, 7, 9)):
            tree, count = star_tree(*triple_star(p, q, r)), triple_count(p, q, r)
            zero = (0,) * tree.size
            self.assertEqual([near_count(tree, 0, zero), star_count(*triple_star(p, q, r))], [count, count])
            self.assertIn(told_or_none(class_count, tree, zero), (count, None))
            left = told_or_none(left_behind, tree, zero, far_row(tree, zero))
            self.assertTrue(left is None or left == count + worth_in(tree, zero, far_row(tree, zero)))
            self.assertEqual(number_by_table(tree)[0] % 24, 0)

    def test_13_6_leaves_tell_tame_trees(self):
        for tree in sample(984, 30, 30, range(1, 6)):
            leaves = [told_or_none(leaf_count, tree, class_, 3) for class_ in classes_of(tree)]
            if None not in leaves and near_places(tree):
                # Beyond this level there may be further leaves only if tau falls again.
                self.assertTrue(not is_tame(tree) or set(leaves) == {1})

    def test_codes_of_pieces_and_of_tau(self):
        compared = 0
        for tree in sample(985, 30, 20, range(1, 6)):
            for class_ in classes_of(tree)[:3]:
                code = told_or_none(stair_code, tree, class_, 1)
                for place in near_places(tree) if code is not None else ():
                    self.assertEqual(tau_code(tree, place, class_, 1), code)
                    compared += 1
        self.assertGreater(compared, 100)


class PutUp(unittest.TestCase):
    def test_6_4_what_taking_down_and_putting_up_keep(self):
        source = random.Random(986)
        for tree in sample(987, 30, 60, range(1, 6)):
            higher = put_up_often(source, tree, 3)
            self.assertIs(are_kin(tree, higher), True)
            self.assertEqual(determinant_of(higher), determinant_of(tree))
            self.assertEqual((class_factors(higher), share_of(higher), depth_of(higher)), (class_factors(tree), share_of(tree), depth_of(tree)))
            self.assertEqual(number_by_table(higher), number_by_table(tree))
            # The places of the tree stand first, so that its classes are told by the first integers.
            pairs = {class_[:tree.size]: class_ for class_ in classes_of(higher)}
            self.assertEqual(tuple(sorted(pairs)), classes_of(tree))
            for one in classes_of(tree)[:5]:
                other = source.choice(classes_of(tree))
                self.assertEqual(pairs[class_sum(tree, one, other)], class_sum(higher, pairs[one], pairs[other]))
                self.assertEqual(class_product(tree, one, other), class_product(higher, pairs[one], pairs[other]))
                self.assertEqual(told_or_none(least_level, tree, one) or 0, told_or_none(least_level, higher, pairs[one]) or 0)
            self.assertEqual(sorted(wu_number(higher, lot) for lot in wu_lots(higher)), sorted(wu_number(tree, lot) for lot in wu_lots(tree)))

    def test_near_places_and_tau_stay(self):
        source = random.Random(988)
        for tree in sample(989, 20, 30, range(1, 6)):
            higher = put_up_often(source, tree, 3)
            zero, more = (0,) * tree.size, (0,) * higher.size
            for place in near_places(tree):
                self.assertIn(place, near_places(higher))
                self.assertEqual(tau(higher, place, more, 20), tau(tree, place, zero, 20))

    def test_20_4_on_a_desk(self):
        desk = Desk()
        desk.keep("a", Tree.line((2, 1, 5)))
        desk.keep("b", taken_down(desk.tree("a"), takeable(desk.tree("a"))[0]))
        for label, told in (("k", ("kin", "a", "b")), ("d", ("determinant", "a", determinant_of(desk.tree("b")))), ("t", ("tame", "a"))):
            desk.promise(label, told)
        desk.put_up("a", 0, 1)
        number = number_by_table(desk.tree("a"))
        self.assertEqual(number_by_table(desk.tree("b")), number)
        self.assertEqual(desk.during(lambda other: (other.put_up("b", 0), number_by_table(other.tree("b")))[1]), number)
        with self.assertRaises(NothingToUndo):
            desk.undo(times=7)
        self.assertEqual(desk.deeds, 6)


class OneNumber(unittest.TestCase):
    def test_18_5_both_roads(self):
        compared = 0
        for tree in sample(990, 60, 40):
            found = told_or_none(number_by_classes, tree)
            if found is not None:
                check_same(self, found, number_by_table(tree))
                compared += 1
        self.assertGreater(compared, 60)

    def test_7_5_to_7_7_lines(self):
        source = random.Random(991)
        for _ in range(40):
            numbers = tuple(source.randint(2, 4) for _ in range(source.randint(1, 5)))
            n, q = chain_fraction(numbers)
            if n > 400:
                continue
            line = made_line(numbers)
            first, last = place_class(line, 0), place_class(line, line.size - 1)
            multiples, class_ = [(0,) * line.size], first
            while class_ != multiples[0]:
                multiples.append(class_)
                class_ = class_sum(line, class_, first)
            self.assertEqual(tuple(sorted(multiples)), classes_of(line))
            self.assertEqual(class_product(line, first, first), -q % n)
            total = multiples[0]
            for _ in range(q):
                total = class_sum(line, total, last)
            self.assertEqual(total, first)
            self.assertEqual(Fraction(*share_of(line)), Fraction(*chain_share(n, q)))
            self.assertEqual(Fraction(*number_by_classes(line)), -12 * Fraction(*saw_sum(q, n)))

    def test_18_4_and_19_6_heights_and_shares_on_tame_trees(self):
        compared = 0
        for tree in sample(992, 40, 30, range(1, 6)):
            shares = told_or_none(class_shares, tree)
            if shares is None or not is_tame(tree) or math.prod(tree) > 20000:
                continue
            for class_, share in shares.items():
                self.assertEqual(Fraction(*share) * 2, Fraction(*height(tree, class_)))
            for lot in wu_lots(tree):
                self.assertEqual(Fraction(*shares[wu_class(tree, lot)]), Fraction(-wu_number(tree, lot), 8))
                compared += 1
        self.assertGreater(compared, 20)


class OtherNames(unittest.TestCase):
    def test_2_3_what_moves_along_with_the_names_of_places(self):
        source = random.Random(993)
        for tree in sample(994, 25, 40, range(2, 7)):
            order = list(range(tree.size))
            source.shuffle(order)
            other = renamed(tree, tuple(order))

            def moved(row):
                found = [None] * tree.size
                for place, entry in enumerate(row):
                    found[order[place]] = entry
                return tuple(found)

            self.assertEqual(sorted(moved(class_) for class_ in classes_of(tree)), list(classes_of(other)))
            check_same(self, near_places(other), tuple(sorted(order[place] for place in near_places(tree))))
            check_same(self, (moved(least_cycle(tree)), moved(k_row(tree))), (least_cycle(other), k_row(other)))
            check_same(self, (multiplicity(tree), number_by_table(tree)), (multiplicity(other), number_by_table(other)))
            check_same(self, tuple(sorted(tuple(sorted(order[place] for place in lot)) for lot in wu_lots(tree))), wu_lots(other))
            for class_ in some_classes(source, tree, 1, classes_of(tree)):
                check_same(self, tuple(moved(row) for row in sure_box(tree, class_)), sure_box(other, moved(class_)))
                check_same(self, told_or_none(class_count, tree, class_), told_or_none(class_count, other, moved(class_)))
                place = source.randrange(tree.size)
                check_same(self, tau(tree, place, class_, 8), tau(other, order[place], moved(class_), 8))
                rows, more = told_or_none(low_rows, tree, class_, 1), told_or_none(low_rows, other, moved(class_), 1)
                check_same(self, rows and tuple(sorted(map(moved, rows))), more)
                self.assertIs(is_far(other, moved(class_), moved(far_row(tree, class_))), True)

    def test_values_of_every_module_as_texts(self):
        tree = put_at_tie(SEVEN, 0, 3)
        for kind, value in (("tree", tree), ("tree", star_tree(*triple_star(5, 7, 9))), ("row", k_row(tree)), ("row", least_cycle(tree)),
                            ("class", classes_of(Tree.line((3, 4)))[3]), ("fraction", share_of(tree)), ("fraction", number_by_table(tree)),
                            ("row", sum_of_rows(least_cycle(tree), far_row(tree, (0,) * 5)))):
            check_same(self, read_value(write_value(value, kind=kind)), value)


if __name__ == "__main__":
    unittest.main()
