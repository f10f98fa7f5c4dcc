"""Stage 1, tables: [1.1] to [1.5], with [0.1], [0.4], [0.5] and [0.7], for tametrees.base.tables."""

import itertools
import math
import random
import unittest
from fractions import Fraction

from tametrees.base.tables import MAX_SIDE, determinant, factors, is_table, rank, undone
from tametrees.errors import InvalidOperation, InvalidTable, Refused
from tests.helpers import BIG, LONG, NO_VALUE, TOO_BIG, check_error, check_same, odd_values, pair

LINE = ((-2, 1), (1, -3))
FLAT = ((1, 2, 3), (2, 4, 6))
NO_TABLES = (
    (), ((),), ((), ()), ((1, 2), (3,)), ((1,), (2, 3)), ((1,), ()), [(1,)], ([1],), (1,), 1, "1", ("1",), None, True, {}, {0: (1,)},
    ((True,),), ((1, False),), ((1, None),), ((1, "2"),), ((1, (2, 1)),), (((1, 2),),), ((TOO_BIG,),), ((1,), (-TOO_BIG,)),
    ((LONG,),), ((1,),) * 21, ((1,) * 21,), ((1,) * 21,) * 21, ((1, 2), [3, 4]), ((1, 2), None), ((1, 2), 3),
)


def determinant_by_orders(rows):
    """The sum over all orders of the columns, with signs."""
    total = 0
    for order in itertools.permutations(range(len(rows))):
        sign = 1
        for low, high in itertools.combinations(order, 2):
            sign = -sign if low > high else sign
        total += sign * math.prod(rows[row][column] for row, column in enumerate(order))
    return total


def rank_by_fractions(rows):
    left = [[Fraction(entry) for entry in row] for row in rows]
    found = 0
    for column in range(len(rows[0])):
        at = next((row for row in range(found, len(left)) if left[row][column] != 0), None)
        if at is None:
            continue
        left[found], left[at] = left[at], left[found]
        for row in range(found + 1, len(left)):
            share = left[row][column] / left[found][column]
            left[row] = [entry - share * top for entry, top in zip(left[row], left[found])]
        found += 1
    return found


def determinant_by_fractions(rows):
    left = [[Fraction(entry) for entry in row] for row in rows]
    total = Fraction(1)
    for at in range(len(left)):
        spot = next((row for row in range(at, len(left)) if left[row][at] != 0), None)
        if spot is None:
            return 0
        if spot != at:
            left[at], left[spot] = left[spot], left[at]
            total = -total
        total *= left[at][at]
        for row in range(at + 1, len(left)):
            share = left[row][at] / left[at][at]
            left[row] = [entry - share * top for entry, top in zip(left[row], left[at])]
    return int(total)


def factors_by_minors(rows):
    """The factors by [1.4]: quotients of the common divisors of all determinants of k rows and columns."""
    found, last = [], 1
    for many in range(1, min(len(rows), len(rows[0])) + 1):
        shared = 0
        for some_rows in itertools.combinations(rows, many):
            for columns in itertools.combinations(range(len(rows[0])), many):
                part = [[row[column] for column in columns] for row in some_rows]
                shared = math.gcd(shared, determinant_by_orders(part))
        if shared == 0:
            break
        found.append(shared // last)
        last = shared
    return tuple(found)


def random_table(source, high, wide, entries):
    return tuple(tuple(source.choice(entries) for _ in range(wide)) for _ in range(high))


def random_tables(seed, count, side, entries, square=False):
    source = random.Random(seed)
    tables = []
    for _ in range(count):
        high = source.randint(1, side)
        tables.append(random_table(source, high, high if square else source.randint(1, side), entries))
    return tables


def mixed(source, rows, steps):
    """The rows after some steps that keep the factors."""
    left = [list(row) for row in rows]
    for _ in range(steps):
        turned = source.random() < 0.5
        if turned:
            left = [list(row) for row in zip(*left)]
        if len(left) > 1:
            one, other = source.sample(range(len(left)), 2)
            share = source.choice((-2, -1, 1, 3))
            left[one] = [entry + share * more for entry, more in zip(left[one], left[other])]
            left[one], left[other] = [-entry for entry in left[other]], left[one]
        if turned:
            left = [list(row) for row in zip(*left)]
    return tuple(tuple(row) for row in left)


def times(one, other):
    return tuple(tuple(sum((Fraction(*x) if isinstance(x, tuple) else Fraction(x)) *
                           (Fraction(*y) if isinstance(y, tuple) else Fraction(y))
                           for x, y in zip(row, column)) for column in zip(*other)) for row in one)


def unit(size):
    return tuple(tuple(int(row == column) for column in range(size)) for row in range(size))


class Kinds(unittest.TestCase):
    def test_the_bound(self):
        check_same(self, MAX_SIDE, 20)

    def test_tables(self):
        for value in (((0,),), ((1, 2, 3),), ((1,), (2,), (3,)), LINE, FLAT, ((BIG, -BIG), (0, 1)), ((7,) * 20,) * 20,
                      ((7,),) * 20, ((7,) * 20,)):
            self.assertIs(is_table(value), True)

    def test_no_tables(self):
        for value in NO_TABLES:
            with self.subTest(repr(value)[:80]):
                self.assertIs(is_table(value), False)
        for value in odd_values():
            self.assertIs(is_table(value), False if value != ((0, 1),) and value not in (((0, 1), (1, 2)), ((1, 2), (1, 3))) else True)

    def test_no_tables_are_refused(self):
        for value in NO_TABLES:
            for call in (rank, factors, determinant, undone):
                with self.subTest(call.__name__, value=repr(value)[:80]):
                    check_error(self, InvalidTable, NO_VALUE, call, value)

    def test_tables_that_are_not_square(self):
        for value in (FLAT, ((1, 2),), ((1,), (2,)), ((0,) * 20,) * 19, ((0,) * 19,) * 20):
            for call in (determinant, undone):
                check_error(self, InvalidOperation, NO_VALUE, call, value)


class Ranks(unittest.TestCase):
    def test_ranks(self):
        for value, expected in ((((0,),), 0), (((5,),), 1), (FLAT, 1), (LINE, 2), (((0, 0), (0, 0)), 0), (((0, 0), (0, 3)), 1),
                                (((0,) * 20,) * 20, 0), (((1,) * 20,) * 20, 1), (unit(20), 20), (((0, 1, 0),), 1)):
            check_same(self, rank(value), expected)

    def test_ranks_of_many_tables(self):
        for table in random_tables(1, 150, 6, (0, 0, 1, -1, 2)) + random_tables(2, 20, 6, (0, BIG, -BIG, 1)):
            check_same(self, rank(table), rank_by_fractions(table))
            check_same(self, rank(tuple(zip(*table))), rank(table))

    def test_rows_that_are_sums_of_others(self):
        source = random.Random(3)
        rows = random_table(source, 7, 20, tuple(range(-10 ** 6, 10 ** 6)))
        sums = tuple(tuple(sum(entries) for entries in zip(*source.sample(rows, 3))) for _ in range(13))
        table = rows + sums
        check_same(self, rank(table), 7)
        check_same(self, len(factors(table)), 7)
        check_same(self, determinant(table), 0)
        check_error(self, Refused, ("singular",), undone, table)


class Determinants(unittest.TestCase):
    def test_determinants_of_small_tables(self):
        for table in random_tables(4, 150, 5, (0, 1, -1, 2, -3), True) + random_tables(5, 20, 5, (0, BIG, -BIG, BIG - 1), True):
            check_same(self, determinant(table), determinant_by_orders(table))

    def test_determinants_of_large_tables(self):
        source = random.Random(6)
        for side in (10, 20):
            table = random_table(source, side, side, (BIG, -BIG, 1, 0, BIG // 3, -BIG // 7))
            check_same(self, determinant(table), determinant_by_fractions(table))
        check_same(self, determinant(unit(20)), 1)
        check_same(self, determinant(unit(20)[::-1]), 1)
        check_same(self, determinant(unit(19)[::-1]), -1)
        check_same(self, determinant(((0,) * 20,) * 20), 0)
        check_same(self, determinant(((BIG,),)), BIG)

    def test_what_determines_a_determinant(self):
        for table in random_tables(7, 60, 5, (0, 1, -1, 2, 5), True):
            size = len(table)
            if size > 1:
                swapped = (table[1], table[0]) + table[2:]
                check_same(self, determinant(swapped), -determinant(table))
                more = tuple(range(3, 3 + size))
                added = (tuple(x + y for x, y in zip(table[0], more)),) + table[1:]
                check_same(self, determinant(added), determinant(table) + determinant((more,) + table[1:]))
            self.assertEqual(determinant(table) != 0, rank(table) == size)
            check_same(self, determinant(unit(size)), 1)

    def test_determinants_of_0(self):
        for table in (((0,),), ((1, 2), (2, 4)), ((1, 2, 3), (4, 5, 6), (7, 8, 9)), ((0, 0), (0, 0)), ((BIG, BIG), (BIG, BIG))):
            check_same(self, determinant(table), 0)
            check_error(self, Refused, ("singular",), undone, table)


class Undone(unittest.TestCase):
    def check_undone(self, table):
        found = undone(table)
        size = len(table)
        self.assertIs(type(found), tuple)
        for row in found:
            self.assertEqual((type(row), len(row)), (tuple, size))
            for entry in row:
                check_same(self, entry, pair(Fraction(*entry)))
        self.assertEqual(times(found, table), unit(size))
        self.assertEqual(times(table, found), unit(size))

    def test_products_with_the_table_are_the_unit_table(self):
        for table in random_tables(8, 120, 5, (0, 1, -1, 2, -3), True) + random_tables(9, 20, 5, (0, BIG, -BIG, 1), True):
            if determinant(table) != 0:
                self.check_undone(table)
            else:
                check_error(self, Refused, ("singular",), undone, table)

    def test_large_tables(self):
        self.check_undone(random_table(random.Random(10), 20, 20, (BIG, -BIG + 5, 1, 0, BIG // 3, -BIG // 7)))
        self.check_undone(unit(20)[3:] + unit(20)[:3])
        check_same(self, undone(((-4,),)), (((-1, 4),),))
        check_same(self, undone(((0, 1), (1, 0))), (((0, 1), (1, 1)), ((1, 1), (0, 1))))

    def test_errors_in_their_sequence(self):
        check_error(self, InvalidTable, NO_VALUE, undone, ((1, 2), (3,)))
        check_error(self, InvalidOperation, NO_VALUE, undone, ((0, 0),))
        check_error(self, Refused, ("singular",), undone, ((0, 0), (0, 0)))


class Factors(unittest.TestCase):
    def test_factors_are_quotients_of_common_divisors(self):
        entries = (0, 1, -1, 2, 3, 4, 6, -6, 12)
        for table in random_tables(11, 200, 4, entries) + random_tables(12, 60, 4, (0, 2, 4, -6, 12, 30)):
            check_same(self, factors(table), factors_by_minors(table))

    def test_steps_keep_the_factors(self):
        source = random.Random(13)
        for diagonal in ((1, 1, 5), (2, 2, 12), (3, 6, 6, 0), (1, 2, 4, 8, 16), (5,), (0, 0), (7, 7, 7 * 11, 0, 0), (1,) * 8 + (36,)):
            for wide in (len(diagonal), len(diagonal) + 2):
                rows = tuple(tuple(entry if at == column else 0 for column in range(wide)) for at, entry in enumerate(diagonal))
                expected = tuple(entry for entry in diagonal if entry)
                for _ in range(6):
                    table = mixed(source, rows, 12)
                    check_same(self, factors(table), expected)
                    check_same(self, factors(tuple(zip(*table))), expected)

    def test_large_tables(self):
        source = random.Random(14)
        diagonal = (1,) * 10 + (2, 2, 6, 6, 6, 30, 30, 10 ** 9 * 3, 10 ** 12 * 6, 0)
        rows = tuple(tuple(entry if at == column else 0 for column in range(20)) for at, entry in enumerate(diagonal))
        table = mixed(source, rows, 60)
        check_same(self, is_table(table), True)
        check_same(self, factors(table), diagonal[:-1])
        check_same(self, factors(((BIG,) * 20,) * 20), (BIG,))
        check_same(self, factors(unit(20)), (1,) * 20)
        check_same(self, factors(((0,) * 20,) * 20), ())
        dense = random_table(source, 20, 20, tuple(source.randint(-BIG, BIG) for _ in range(500)))
        found = factors(dense)
        self.assertEqual(math.prod(found), abs(determinant(dense)))
        self.assertTrue(all(other % one == 0 for one, other in zip(found, found[1:])))

    def test_the_product_of_the_factors_is_the_size_of_the_determinant(self):
        for table in random_tables(15, 100, 6, (0, 1, -2, 3, 4), True):
            if determinant(table) != 0:
                check_same(self, math.prod(factors(table)), abs(determinant(table)))
            check_same(self, len(factors(table)), rank(table))


class NotTrue(unittest.TestCase):
    def test_1_5(self):
        self.assertEqual((determinant(((1, 1), (0, 1))), undone(((1, 1), (0, 1)))[0][1]), (1, (-1, 1)))
        self.assertEqual(determinant(((2, 0), (0, 2))), determinant(((1, 0), (0, 4))))
        self.assertEqual((factors(((2, 0), (0, 2))), factors(((1, 0), (0, 4)))), ((2, 2), (1, 4)))
        self.assertEqual(factors(((2, 0), (0, 3))), (1, 6))


if __name__ == "__main__":
    unittest.main()
