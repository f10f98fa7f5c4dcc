"""The sure box of a class: from the least quiet row to the least row that is far. Nothing is checked here."""

from tametrees.low.lowest import WayDown, presses_of_class, quiet_row
from tametrees.rows.rises import Rise
from tametrees.trees.shapes import presses_of
from tametrees.trees.trees import near_of


def sure_rows(tree, class_):
    """The least quiet row at or above the boxed row, and the least row above it that is far, less the boxed row.

    Where places can be taken down, steps can be very many. So they are taken on the tree that is left. A row that is
    far has at least the entries that are found so, and wherever a press is still too great, 1 more.
    """
    down = WayDown(tree, class_, None)
    low = quiet_row(down)
    high = _row_from_below(down, low)
    more = _places_over(tree, class_, high)
    while len(more) > 0:
        high = _row_from_below(down, tuple([entry + 1 if at in more else entry for at, entry in enumerate(high)]))
        more = _places_over(tree, class_, high)
    return low, high


def far_excess(tree, class_, row):
    """How far the presses of a row of the class are above what a far row has at the most."""
    boxed = presses_of_class(tree, class_)
    presses = presses_of(tree.numbers, near_of(tree), row)
    return [one + other + number - 2 for one, other, number in zip(boxed, presses, tree.numbers)]


def _places_over(tree, class_, row):
    return [place for place, over in enumerate(far_excess(tree, class_, row)) if over > 0]


def _row_from_below(down, floor):
    """A row at or above the floor, and at or below each far row that is at or above the floor."""
    start, entries = down.apart(floor)
    rise = Rise(down.left_tree.numbers, near_of(down.left_tree), far_excess(down.left_tree, down.class_, start))
    rise.finish()
    row = tuple([one + more for one, more in zip(start, rise.added)])
    for back, entry in zip(down.backs, entries):
        # A far row has at most 1 as its press at such a place.
        row = back.row_with(row, max(entry, back.middle_of(row) - 1))
    return row
