"""Definite trees: pivots, determinants, and papers that show whether a tree is definite."""

from tametrees.base.kinds import is_whole_row
from tametrees.base.ratios import is_ratio, ratio, ratio_quotient, with_common_bottom
from tametrees.errors import Refused
from tametrees.trees.forests import branch_determinants, left_of_tree
from tametrees.trees.shapes import product_of
from tametrees.trees.trees import check_tree, near_of
from tametrees.trees.walks import rooted

PIVOTS = "pivots"
BAR = "bar"


def check_definite(value):
    """The check of an argument that is a definite tree."""
    if not is_definite(value):
        raise Refused((BAR,))


def tree_determinant(tree):
    """The determinant of any tree."""
    return left_of_tree(tree.numbers, near_of(tree), ())


def is_definite(tree):
    """Whether the tree is definite."""
    return all([_is_above_0(pivot) for pivot in pivots(tree)])


def _is_above_0(pivot):
    return pivot is not None and pivot[0] > 0


def pivots(tree):
    """The tuple that has the pivot of each place, or None for a place without one."""
    check_tree(tree)
    order, parents = rooted(near_of(tree), 0)
    wholes, without = branch_determinants(tree.numbers, order, parents)
    found = [None for _ in order]
    lacking = [False for _ in order]
    for place in reversed(list(order)):
        # The determinant of a branch is the product of all pivots in it, so two such determinants tell one pivot.
        if not lacking[place]:
            found[place] = ratio(wholes[place], without[place])
        if place != 0 and not _is_above_0(found[place]):
            lacking[parents[place]] = True
    return tuple(found)


def determinant_of(tree):
    """The determinant of the tree, an integer."""
    check_tree(tree)
    return tree_determinant(tree)


def minors(tree):
    """The tuple of the determinants of the first rows and columns of the opposite table, from one row to all."""
    check_tree(tree)
    near = near_of(tree)
    places = tuple(range(tree.size))
    return tuple([left_of_tree(tree.numbers, near, places[many:]) for many in range(1, tree.size + 1)])


def definite_paper(tree):
    """A paper that shows whether the tree is definite: all pivots, or a bar."""
    found = pivots(tree)
    for place, pivot in enumerate(found):
        if pivot is not None and pivot[0] <= 0:
            return (BAR, _bar_from(tree, found, place))
    return (PIVOTS, found)


def _bar_from(tree, found, top):
    """The bar that a place with a pivot of at most 0 tells: a row of fractions, times their common bottom."""
    order, parents = rooted(near_of(tree), 0)
    entries = [(0, 1) for _ in order]
    entries[top] = (1, 1)
    for place in order:
        if place not in (0, top) and entries[parents[place]][0] != 0:
            entries[place] = ratio_quotient(entries[parents[place]], found[place])
    row, _ = with_common_bottom(entries)
    return row


def is_definite_paper(tree, value):
    """Whether the value is a paper of the tree. Integers in it can have any length."""
    check_tree(tree)
    if not isinstance(value, tuple) or len(value) != 2:
        return False
    word, shown = value
    if word == PIVOTS:
        return is_definite(tree) and _are_ratios(shown) and shown == pivots(tree)
    return word == BAR and _is_bar(tree, shown)


def _are_ratios(value):
    return isinstance(value, tuple) and all([is_ratio(part) for part in value])


def _is_bar(tree, value):
    if not is_whole_row(value, tree.size) or not any([entry != 0 for entry in value]):
        return False
    return product_of(tree.numbers, near_of(tree), value, value) >= 0
