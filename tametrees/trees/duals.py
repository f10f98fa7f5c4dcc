"""Dual rows: rows whose presses are integers, and the entries of the inverse of the opposite table."""

from tametrees.base.kinds import are_indices
from tametrees.base.ratios import is_ratio_row, ratio, with_common_bottom
from tametrees.errors import InvalidOperation
from tametrees.trees.definite import check_definite, tree_determinant
from tametrees.trees.forests import left_of_tree
from tametrees.trees.shapes import presses_of
from tametrees.trees.trees import check_place, check_tree, near_of
from tametrees.trees.walks import path_of


def path_between(tree, one, other):
    """The tuple of the places on the path from one place to another one."""
    check_tree(tree)
    check_place(tree, one)
    check_place(tree, other)
    return path_of(near_of(tree), one, other)


def left_determinant(tree, places):
    """The determinant of what is left of a tree without some places."""
    check_tree(tree)
    if not are_indices(places, tree.size):
        raise InvalidOperation("the places are an ascending tuple of places of the tree")
    return left_of_tree(tree.numbers, near_of(tree), places)


def undone_entry(tree, one, other):
    """The entry of two places in the inverse of the opposite table of a definite tree."""
    check_definite(tree)
    check_place(tree, one)
    check_place(tree, other)
    near = near_of(tree)
    left = left_of_tree(tree.numbers, near, path_of(near, one, other))
    return ratio(left, tree_determinant(tree))


def dual_row(tree, place):
    """The row of a definite tree with the press -1 at a place, and 0 at all other places."""
    check_definite(tree)
    check_place(tree, place)
    whole = tree_determinant(tree)
    return tuple([ratio(left, whole) for left in dual_tops(tree, place)])


def dual_tops(tree, place):
    """The dual row of a place of a definite tree, times the determinant: a tuple of integers."""
    near = near_of(tree)
    paths = [path_of(near, place, other) for other in range(tree.size)]
    return tuple([left_of_tree(tree.numbers, near, path) for path in paths])


def is_dual(tree, value):
    """Whether the value is a row of numbers, of any length, all of whose presses are integers."""
    check_tree(tree)
    if not is_ratio_row(value, tree.size):
        return False
    tops, bottom = with_common_bottom(value)
    return all([press % bottom == 0 for press in presses_of(tree.numbers, near_of(tree), tops)])
