"""Rows of classes: their worths, the least quiet ones, and all low rows. Nothing is checked here."""

from tametrees.low.slopes import Slopes, rows_of_branches
from tametrees.rows.rises import Rise
from tametrees.trees.definite import tree_determinant
from tametrees.trees.kin import way_down_beside
from tametrees.trees.shapes import presses_of, worth_of
from tametrees.trees.trees import near_of


def presses_of_class(tree, class_):
    """The presses, integers, of the boxed row of a class."""
    whole = tree_determinant(tree)
    return tuple([press // whole for press in presses_of(tree.numbers, near_of(tree), class_)])


def worth_in_class(tree, class_, row):
    """The worth in a class of a row of integers: its worth, less its product with the boxed row."""
    pressed = presses_of_class(tree, class_)
    return worth_of(tree.numbers, near_of(tree), row) - sum([press * entry for press, entry in zip(pressed, row)])


def rows_to_level(tree, class_, level, most):
    """The list of the pairs (worth, row) of all low rows of a class, or None if there are more than `most`."""
    down = WayDown(tree, class_, None)
    slopes = Slopes(down.left_tree.numbers, near_of(down.left_tree), presses_of_class(down.left_tree, down.class_))
    found = rows_of_branches(slopes, level, most)
    for back in down.backs:
        found = _rows_put_back(back, found, level, most)
    return found


class WayDown:
    """A tree with a class, and what is left if all places but one that is kept are taken down.

    `left_tree` is the tree that is left, `class_` its class, and `kept` how the kept place is called in it, None if
    there is none. `backs` are the ways back, from that of the place that was taken down last on.
    """

    def __init__(self, tree, class_, kept):
        trees, places, staying = way_down_beside(tree, kept)
        classes = [class_]
        for gone in places:
            classes.append(classes[-1][:gone] + classes[-1][gone + 1:])
        backs = [PutBack(trees[at], classes[at], place) for at, place in enumerate(places)]
        self.left_tree = trees[-1]
        self.class_ = classes[-1]
        self.kept = staying
        self.backs = backs[::-1]

    def row_back(self, row):
        """The row of the tree with the same worth in its class, and the press 0 at all places that were taken down."""
        whole_row = row
        for back in self.backs:
            whole_row = back.row_with(whole_row, back.middle_of(whole_row))
        return whole_row

    def apart(self, row):
        """The row without the entries at the places that were taken down, and these entries, as `backs` stand."""
        left = row
        entries = []
        for back in reversed(list(self.backs)):
            entries.append(left[back.place])
            left = left[:back.place] + left[back.place + 1:]
        return left, entries[::-1]


def quiet_row(down):
    """The least quiet row at or above the boxed row, less the boxed row, for a way down on which no place is kept.

    A quiet row has no press above 0 at the places that are taken down: without them it is quiet, too.
    So this row has the press 0 there.
    """
    rise = Rise(down.left_tree.numbers, near_of(down.left_tree), presses_of_class(down.left_tree, down.class_))
    rise.finish()
    return down.row_back(tuple(rise.added))


class PutBack:
    """A place that was taken down of a tree, for rows of a class."""

    def __init__(self, tree, class_, place):
        self.place = place
        self.beside = tree.neighbours(place)
        self.more = presses_of_class(tree, class_)[place]

    def row_with(self, row, entry):
        """The row of the tree that comes of a row of the tree without the place."""
        return row[:self.place] + (entry,) + row[self.place:]

    def middle_of(self, row):
        """The entry at the place with which the worth in the class stays.

        There the press of the row with the boxed row added is 0. An entry that is k above it makes the worth greater
        by k (k + 1) / 2.
        """
        entries = self.row_with(row, 0)
        return sum([entries[other] for other in self.beside]) + self.more


def _rows_put_back(back, found, level, most):
    """The pairs of all low rows of the tree, for the pairs of those of the tree without the place."""
    if found is None:
        return None
    longer = []
    for low, row in found:
        middle = back.middle_of(row)
        many = 0
        while low + many * (many + 1) // 2 <= level:
            worth = low + many * (many + 1) // 2
            longer.append((worth, back.row_with(row, middle + many)))
            longer.append((worth, back.row_with(row, middle - 1 - many)))
            many += 1
            if len(longer) > most:
                return None
    return longer
