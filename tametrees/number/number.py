"""Shares of classes, and the number of a tree: by its classes, and by its determinants alone."""

from tametrees.base.ratios import ratio, ratio_difference, ratio_product, ratio_sum
from tametrees.low.boxes import count_of
from tametrees.low.lowest import presses_of_class
from tametrees.rows.depth import share_of
from tametrees.trees.definite import check_definite, tree_determinant
from tametrees.trees.forests import left_of_tree
from tametrees.trees.groups import check_tree_and_class, classes_of
from tametrees.trees.trees import near_of


def class_share(tree, class_):
    """The share of a class, a fraction."""
    check_tree_and_class(tree, class_)
    return _share_by_count(tree, class_, share_of(tree))


def class_shares(tree):
    """The dict from all classes, ascending, to their shares."""
    classes = classes_of(tree)
    whole_share = share_of(tree)
    return {class_: _share_by_count(tree, class_, whole_share) for class_ in classes}


def number_by_classes(tree):
    """The number of the tree, by the shares of all its classes."""
    total = (0, 1)
    for share in class_shares(tree).values():
        total = ratio_sum(total, share)
    return ratio_product(total, ratio(24, tree_determinant(tree)))


def number_by_table(tree):
    """The number of the tree, by its determinant and what is left of it without a place."""
    check_definite(tree)
    near = near_of(tree)
    lefts = [left_of_tree(tree.numbers, near, (place,)) for place in range(tree.size)]
    total = sum([(2 - degree) * left for degree, left in zip(tree.degrees, lefts)])
    return ratio_difference((3 * tree.size - sum(tree.numbers), 1), ratio(total, tree_determinant(tree)))


def _share_by_count(tree, class_, whole_share):
    """The count of the class, less the worth of its boxed row, plus an eighth of the share of the tree."""
    counted = ratio_difference((count_of(tree, class_), 1), _boxed_worth(tree, class_))
    return ratio_sum(counted, ratio_product(whole_share, (1, 8)))


def _boxed_worth(tree, class_):
    """The worth of the boxed row, whose entries are the parts of the class, divided by the determinant."""
    pressed = presses_of_class(tree, class_)
    # The press of the boxed row and K is that of the boxed row, plus the number of the place, less 2.
    parts = [part * (press + number - 2) for part, press, number in zip(class_, pressed, tree.numbers)]
    return ratio(-sum(parts), 2 * tree_determinant(tree))
