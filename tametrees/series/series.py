"""The series of a definite tree: its coefficients, far rows, and the sums that are left behind them."""

from math import comb
from tametrees.base.kinds import is_whole_row
from tametrees.errors import InvalidOperation, TooMany
from tametrees.low.sure import far_excess, sure_rows
from tametrees.trees.definite import check_definite, tree_determinant
from tametrees.trees.duals import dual_tops
from tametrees.trees.groups import check_tree_and_class
from tametrees.trees.trees import check_row

MOST_TERMS = 20000


def coefficient(tree, exponents):
    """The coefficient of the series at the dual row with these exponents."""
    check_definite(tree)
    check_row(tree, exponents)
    total = 1
    for degree, exponent in zip(tree.degrees, exponents):
        total = total * _factor(degree, exponent)
    return total


def _factor(degree, exponent):
    """What a place of this degree gives to the coefficient."""
    if exponent < 0:
        return 0
    if degree < 2:
        return exponent + 1 if degree == 0 else 1
    if exponent > degree - 2:
        return 0
    return (1 - 2 * (exponent % 2)) * comb(degree - 2, exponent)


def is_far(tree, class_, value):
    """Whether the value is a row of integers that is far in the class."""
    check_tree_and_class(tree, class_)
    return is_whole_row(value, tree.size) and _is_far_row(tree, class_, value)


def _is_far_row(tree, class_, row):
    return max(far_excess(tree, class_, row)) <= 0


def far_row(tree, class_):
    """A row of integers that is far in the class."""
    check_tree_and_class(tree, class_)
    _, high = sure_rows(tree, class_)
    return high


def left_behind(tree, class_, row):
    """The sum of the coefficients of all rows of the class that are left behind a far row."""
    check_tree_and_class(tree, class_)
    check_row(tree, row)
    if not _is_far_row(tree, class_, row):
        raise InvalidOperation("the row is not far in the class")
    whole = tree_determinant(tree)
    ends = [part + whole * entry for part, entry in zip(class_, row)]
    found = _terms_behind(tree, ends)
    if found is None:
        raise TooMany(MOST_TERMS)
    return sum([told for told, tops in found if tuple([top % whole for top in tops]) == class_])


def _terms_behind(tree, ends):
    """The pairs (coefficient, tops) of all terms of the series that are left behind; None if there are too many.

    The tops of a row are its entries, times the determinant. The rows E(w) are above 0 everywhere: if a row is left
    behind, so is each one with lesser exponents. So no part that is made here is made in vain.
    """
    found = _left_behind_row([(1, (0,) * tree.size)], ends)
    for place, degree in enumerate(tree.degrees):
        if degree != 2:
            found = _with_exponents(found, degree, dual_tops(tree, place), ends)
            if found is None:
                return None
    return found


def _left_behind_row(terms, ends):
    """Those of some terms whose rows are not at or above the row with the tops `ends`."""
    return [(told, tops) for told, tops in terms if any([top < end for top, end in zip(tops, ends)])]


def _with_exponents(terms, degree, unit, ends):
    """The terms that are left behind if some terms get each exponent at one more place; None if there are too many."""
    found = []
    exponent = 0
    begun = terms
    while len(begun) > 0:
        factor = _factor(degree, exponent)
        found.extend([(told * factor, tops) for told, tops in begun])
        if len(found) > MOST_TERMS:
            return None
        exponent += 1
        if _factor(degree, exponent) == 0:
            return found
        moved = [(told, tuple([top + more for top, more in zip(tops, unit)])) for told, tops in begun]
        begun = _left_behind_row(moved, ends)
    return found
