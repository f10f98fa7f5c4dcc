"""The least rows of a class with told entries at one place, and no press above 0 at the others."""

from tametrees.low.lowest import WayDown, presses_of_class, quiet_row, worth_in_class
from tametrees.rows.rises import Rise
from tametrees.trees.shapes import presses_of
from tametrees.trees.trees import near_of


class Lifts:
    """The rows x(0), x(1), .. of a class beside a place, one after the other.

    They have the press 0 at the places that are taken down, so they are reckoned on the tree that is left.
    """

    def __init__(self, tree, place, class_):
        down = WayDown(tree, class_, place)
        left, near = down.left_tree, near_of(down.left_tree)
        start, _ = down.apart(quiet_row(WayDown(tree, class_, None)))
        boxed, presses = presses_of_class(left, down.class_), presses_of(left.numbers, near, start)
        rise = Rise(left.numbers, near, [one + other for one, other in zip(boxed, presses)])
        rise.kept = down.kept
        self.down = down
        self.start = start
        self.rise = rise
        self.first = worth_in_class(left, down.class_, start)

    def go_on(self, many):
        """Goes on to the row with so much more at the place."""
        self.rise.lift(self.down.kept, many)
        self.rise.finish()

    def worth_now(self):
        """The worth in the class of the row: tau."""
        return self.first + self.rise.level

    def row_now(self):
        """The row, less the boxed row."""
        return self.down.row_back(tuple([entry + more for entry, more in zip(self.start, self.rise.added)]))
