"""Classes of dual rows: told by integers from 0 to below the determinant, one for each place."""

from math import gcd
from tametrees.base.grids import factors_of_rows
from tametrees.base.kinds import is_index
from tametrees.base.ratios import pair_of, ratio
from tametrees.errors import InvalidClass, InvalidOperation, TooMany
from tametrees.trees.definite import check_definite, tree_determinant
from tametrees.trees.duals import dual_tops, is_dual
from tametrees.trees.shapes import presses_of, product_of
from tametrees.trees.trees import check_number_row, check_place, near_of

MAX_CLASSES = 400


def check_classed(value):
    """The check of an argument that is a classed tree."""
    check_definite(value)
    if tree_determinant(value) > MAX_CLASSES:
        raise TooMany(MAX_CLASSES)


def check_class(tree, value):
    """The check of an argument that is a class of a classed tree."""
    if not _is_class_of(tree, value):
        raise InvalidClass("a class is a tuple of integers whose row, divided by the determinant, is dual")


def check_tree_and_class(tree, class_):
    """The check of two arguments: a classed tree and a class of it."""
    check_classed(tree)
    check_class(tree, class_)


def is_class(tree, value):
    """Whether the value is a class of the tree."""
    check_classed(tree)
    return _is_class_of(tree, value)


def _is_class_of(tree, value):
    whole = tree_determinant(tree)
    if not isinstance(value, tuple) or len(value) != tree.size:
        return False
    if not all([is_index(part, whole) for part in value]):
        return False
    return all([press % whole == 0 for press in presses_of(tree.numbers, near_of(tree), value)])


def classes_of(tree):
    """The ascending tuple of all classes."""
    check_classed(tree)
    whole = tree_determinant(tree)
    found = [(0,) * tree.size]
    for place in range(tree.size):
        found = _with_multiples(found, _tops_within(tree, place), whole)
    return tuple(sorted(found))


def _with_multiples(classes, more, whole):
    """The sums of some classes, which have all sums of their own, and of all multiples of one more class."""
    found = list(classes)
    multiple = more
    while multiple not in classes:
        found = found + [_sum_within(one, multiple, whole) for one in classes]
        multiple = _sum_within(multiple, more, whole)
    return found


def _sum_within(one, other, whole):
    return tuple([(entry + more) % whole for entry, more in zip(one, other)])


def _tops_within(tree, place):
    whole = tree_determinant(tree)
    return tuple([top % whole for top in dual_tops(tree, place)])


def class_of(tree, row):
    """The class of a dual row."""
    check_classed(tree)
    check_number_row(tree, row)
    if not is_dual(tree, row):
        raise InvalidOperation("the row is not dual")
    whole = tree_determinant(tree)
    pairs = [pair_of(number) for number in row]
    return tuple([top * (whole // bottom) % whole for top, bottom in pairs])


def boxed_row(tree, class_):
    """The row of a class whose entries, fractions, are from 0 to below 1."""
    check_tree_and_class(tree, class_)
    whole = tree_determinant(tree)
    return tuple([ratio(part, whole) for part in class_])


def place_class(tree, place):
    """The class of the dual row of a place."""
    check_classed(tree)
    check_place(tree, place)
    return _tops_within(tree, place)


def class_sum(tree, one, other):
    """The sum of two classes."""
    check_tree_and_class(tree, one)
    check_class(tree, other)
    return _sum_within(one, other, tree_determinant(tree))


def class_opposite(tree, class_):
    """The class of the opposite rows."""
    check_tree_and_class(tree, class_)
    whole = tree_determinant(tree)
    return tuple([-part % whole for part in class_])


def class_order(tree, class_):
    """The least integer from 1 on whose product with the rows of the class has integers alone."""
    check_tree_and_class(tree, class_)
    whole = tree_determinant(tree)
    shared = whole
    for part in class_:
        shared = gcd(shared, part)
    return whole // shared


def class_product(tree, one, other):
    """The integer m from 0 to below the determinant D for which the product of the rows is m / D, modulo 1."""
    check_tree_and_class(tree, one)
    check_class(tree, other)
    whole = tree_determinant(tree)
    # Each press of a class is a multiple of the determinant, so the division leaves no rest.
    return product_of(tree.numbers, near_of(tree), one, other) // whole % whole


def class_factors(tree):
    """The factors of the table that are above 1, ascending."""
    check_classed(tree)
    return tuple([factor for factor in factors_of_rows(tree.table) if factor > 1])


def halves_of(tree):
    """The ascending tuple of the classes that, added to themselves, give the class of the rows of integers."""
    found = classes_of(tree)
    whole = tree_determinant(tree)
    zero = (0,) * tree.size
    return tuple([class_ for class_ in found if _sum_within(class_, class_, whole) == zero])
