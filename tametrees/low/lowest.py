"""Low rows of classes of any definite tree, by those of its least tree. Nothing is checked here."""

from tametrees.low.slopes import Slopes, rows_of_branches
from tametrees.trees.definite import tree_determinant
from tametrees.trees.kin import way_down
from tametrees.trees.shapes import presses_of
from tametrees.trees.trees import near_of


def presses_of_class(tree, class_):
    """The presses, integers, of the boxed row of a class."""
    whole = tree_determinant(tree)
    return tuple([press // whole for press in presses_of(tree.numbers, near_of(tree), class_)])


def rows_to_level(tree, class_, level, most):
    """The list of the pairs (worth, row) of all low rows of a class, or None if there are more than `most`."""
    trees, places = way_down(tree)
    classes = [class_]
    for place in places:
        classes.append(classes[-1][:place] + classes[-1][place + 1:])
    least = trees[-1]
    slopes = Slopes(least.numbers, near_of(least), presses_of_class(least, classes[-1]))
    found = rows_of_branches(slopes, level, most)
    for at in reversed(range(len(places))):
        found = _rows_put_back(PutBack(trees[at], classes[at], places[at]), found, level, most)
    return found


class PutBack:
    """A place that was taken down of a tree, for rows of a class."""

    def __init__(self, tree, class_, place):
        self.place = place
        self.beside = tree.neighbours(place)
        self.more = presses_of_class(tree, class_)[place]

    def row_with(self, row, entry):
        """The row of the tree that comes of a row of the tree without the place."""
        return row[:self.place] + (entry,) + row[self.place:]

    def middle_of(self, row):
        """The entry at the place with which the worth in the class stays.

        There the press of the row with the boxed row added is 0. An entry that is k above it makes the worth greater
        by k (k + 1) / 2.
        """
        entries = self.row_with(row, 0)
        return sum([entries[other] for other in self.beside]) + self.more


def _rows_put_back(back, found, level, most):
    """The pairs of all low rows of the tree, for the pairs of those of the tree without the place."""
    if found is None:
        return None
    longer = []
    for low, row in found:
        middle = back.middle_of(row)
        many = 0
        while low + many * (many + 1) // 2 <= level:
            worth = low + many * (many + 1) // 2
            longer.append((worth, back.row_with(row, middle + many)))
            longer.append((worth, back.row_with(row, middle - 1 - many)))
            many += 1
            if len(longer) > most:
                return None
    return longer
