"""Rows of fractions that are told by their presses."""

from tametrees.base.ratios import ratio, ratio_quotient, ratio_sum
from tametrees.trees.forests import branch_determinants
from tametrees.trees.walks import rooted


def row_with_presses(numbers, near, presses, root=0, gone=()):
    """The row of a definite tree that has these presses, integers: a tuple of pairs.

    Leaf by leaf each place gives its share to its parent; then each entry is told by that of the parent.
    If there are places `gone`, it is told for the part without them that has the root.
    """
    order, parents = rooted(near, root, gone)
    wholes, without = branch_determinants(numbers, order, parents)
    pivots = [ratio(whole, left) for whole, left in zip(wholes, without)]
    shares = [(-press, 1) for press in presses]
    for place in reversed(list(order[1:])):
        parent = parents[place]
        shares[parent] = ratio_sum(shares[parent], ratio_quotient(shares[place], pivots[place]))
    entries = [ratio_quotient(share, pivot) for share, pivot in zip(shares, pivots)]
    for place in order[1:]:
        more = ratio_quotient(entries[parents[place]], pivots[place])
        entries[place] = ratio_sum(entries[place], more)
    return tuple(entries)
