"""The row K, and how far a tree is from tame."""

from math import lcm
from tametrees.base.ratios import ratio_product, ratio_sum
from tametrees.errors import Refused
from tametrees.rows.climbs import climb_from
from tametrees.rows.tame import least_sink
from tametrees.trees.definite import check_definite
from tametrees.trees.kin import least_tree
from tametrees.trees.solved import row_with_presses
from tametrees.trees.trees import near_of

DEPTHS = ("tame", "even", "deep")


def k_row(tree):
    """The row of fractions of a definite tree whose press at each place is the number of the place, less 2."""
    check_definite(tree)
    return row_with_presses(tree.numbers, near_of(tree), [number - 2 for number in tree.numbers])


def k_multiple(tree):
    """The least integer from 1 on whose product with K has integers alone."""
    found = 1
    for _, bottom in k_row(tree):
        found = lcm(found, bottom)
    return found


def share_of(tree):
    """The product of K with itself, plus the number of the places."""
    row = k_row(tree)
    total = (tree.size, 1)
    for entry, number in zip(row, tree.numbers):
        total = ratio_sum(total, ratio_product(entry, (number - 2, 1)))
    return total


def depth_of(tree):
    """The depth: whether the worth of Z is 1, 0, or below it."""
    # Taking down keeps the depth. Steps never raise the worth, so they can stop where it is below 0.
    least = least_tree(tree)
    _, level = climb_from(least.numbers, near_of(least), 0, 0)
    return DEPTHS[1 - max(level, -1)]


def even_row(tree):
    """The least row from 0 on, other than 0, of the worth 0, of an even tree."""
    found = depth_of(tree)
    if found != "even":
        raise Refused((found,))
    # No row from 0 on has a worth below 0 here, so this is the only least sink.
    return least_sink(tree)
