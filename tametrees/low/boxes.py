"""Boxes of rows, their signed sums, and the counts of classes that these tell."""

from tametrees.base.kinds import is_whole_within
from tametrees.errors import InvalidNumber, InvalidOperation, TooMany
from tametrees.low.cells import cell_count, cells_of_box
from tametrees.low.sure import sure_rows
from tametrees.trees.groups import check_tree_and_class
from tametrees.trees.trees import check_row

MAX_CELLS = 20000

# The levels to which Euler numbers are told are from -1000 to 1000.
_MOST_LEVEL = 1000


def sure_box(tree, class_):
    """The pair of the rows `low` and `high` of the sure box."""
    check_tree_and_class(tree, class_)
    return sure_rows(tree, class_)


def box_count(tree, class_, low, high):
    """The signed sum of a box."""
    check_tree_and_class(tree, class_)
    check_row(tree, low)
    check_row(tree, high)
    if any([most < least for least, most in zip(low, high)]):
        raise InvalidOperation("the second row is at or above the first one")
    return _signed_sum(_cells_within(tree, class_, (low, high)))


def class_count(tree, class_):
    """The count of a class: the signed sum of its sure box."""
    check_tree_and_class(tree, class_)
    return count_of(tree, class_)


def count_of(tree, class_):
    """The count of a class; here nothing is checked but the number of the cells."""
    return _signed_sum(_cells_within(tree, class_, sure_rows(tree, class_)))


def euler_numbers(tree, class_, level):
    """The least worth m of all rows of integers, and the tuple of the Euler numbers at the levels from m to `level`."""
    check_tree_and_class(tree, class_)
    if not is_whole_within(level, -_MOST_LEVEL, _MOST_LEVEL):
        raise InvalidNumber(level)
    cells = _cells_within(tree, class_, sure_rows(tree, class_))
    least = min([worth for worth, _ in cells])
    growths = [0 for _ in range(least, level + 1)]
    for told, parity in cells:
        if told <= level:
            growths[told - least] += 1 - 2 * parity
    return least, tuple(_sums_so_far(growths))


def _sums_so_far(values):
    found = []
    total = 0
    for value in values:
        total = total + value
        found.append(total)
    return found


def _cells_within(tree, class_, ends):
    """The cells of the box between two rows, if they are not too many."""
    low, high = ends
    if cell_count(low, high) > MAX_CELLS:
        raise TooMany(MAX_CELLS)
    return cells_of_box(tree, class_, low, high)


def _signed_sum(cells):
    return sum([(2 * parity - 1) * worth for worth, parity in cells])
