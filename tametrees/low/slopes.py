"""Low rows of a class: all rows of integers whose worth in the class is at most a level. Nothing is checked here."""

from math import lcm
from tametrees.base.ratios import ratio, ratio_difference, ratio_product, ratio_quotient, ratio_sum
from tametrees.trees.forests import branch_determinants, left_of_tree
from tametrees.trees.walks import rooted


class Slopes:
    """The least worths in a class of the branches of a definite tree.

    `weights` are the numbers of the places, `pressed` the presses of the boxed row of the class. The branch of a
    place is the place with all places behind it, as seen from a root. The worth of one of its rows below an entry of
    the parent is its worth in the class, less the product of both entries at the tie to the parent.
    """

    def __init__(self, numbers, near, pressed):
        self.weights = numbers
        self.pressed = pressed
        self.root = _place_with_wide_rows(numbers, near)
        self.order, self.parents = rooted(near, self.root)
        parents = self.parents
        self.children = [[other for other in near[place] if other != parents[place]] for place in range(len(numbers))]
        self.curves = _curves(self)
        self.known = {}

    def least(self, place, above):
        """The least worth of the branch of a place below the entry `above` of the parent."""
        if (place, above) not in self.known:
            self.known[(place, above)] = self.searched(place, above)
        return self.known[(place, above)]

    def searched(self, place, above):
        """The same, by going from the middle of the curve both ways as long as a lesser worth can come."""
        low = self.middle(place, above)
        best = self.reached(place, above, low)
        for way in (-1, 1):
            entry = low + way
            while self.can_reach(place, above, entry, best - 1):
                best = min(best, self.reached(place, above, entry))
                entry = entry + way
        return best

    def reached(self, place, above, entry):
        """The least worth of the branch with this entry at the place, below the entry `above` of the parent."""
        number = self.weights[place]
        own = (number * entry * entry - (number - 2) * entry) // 2 - (self.pressed[place] + above) * entry
        return own + sum([self.least(child, entry) for child in self.children[place]])

    def middle(self, place, above):
        """The greatest integer that is not above the place of the least point of the curve."""
        wide, lean, _, scale = self.curves[place]
        return (lean + scale * above) // wide

    def can_reach(self, place, above, entry, level):
        """Whether the curve, which is below all worths, is at most the level at this entry."""
        wide, lean, base, scale = self.curves[place]
        return wide * entry * entry - 2 * (lean + scale * above) * entry + base <= 2 * scale * level

    def choices(self, place, above, top, most):
        """The pairs of an entry, and of how far it leaves the worth below `top`; no more than `most` + 1 of them."""
        low = self.middle(place, above)
        found = []
        for first, way in ((low, -1), (low + 1, 1)):
            entry = first
            while len(found) <= most and self.can_reach(place, above, entry, top):
                left = top - self.reached(place, above, entry)
                if left >= 0:
                    found.append((entry, left))
                entry = entry + way
        return found


def _place_with_wide_rows(numbers, near):
    """The place at which rows of a worth vary most: where what is left without it has the greatest determinant."""
    lefts = [left_of_tree(numbers, near, (place,)) for place in range(len(numbers))]
    return lefts.index(max(lefts))


def _curves(slopes):
    """For each place integers (p, q, k, n) that tell a worth which its branch cannot get below.

    With the entry x and the entry a of the parent, 2 n times the worth is at least p x x - 2 (q + n a) x + k; it is
    reached by entries of the places behind that need not be integers.
    """
    wholes, without = branch_determinants(slopes.weights, slopes.order, slopes.parents)
    found = [None for _ in slopes.weights]
    leans = [None for _ in slopes.weights]
    bases = [None for _ in slopes.weights]
    for place in reversed(list(slopes.order)):
        lean = ratio(slopes.weights[place] - 2 + 2 * slopes.pressed[place], 2)
        base = (0, 1)
        for child in slopes.children[place]:
            share = ratio_quotient(leans[child], ratio(wholes[child], without[child]))
            lean = ratio_sum(lean, share)
            base = ratio_sum(base, ratio_difference(bases[child], ratio_product(leans[child], share)))
        leans[place], bases[place] = lean, base
        found[place] = _with_integers(ratio(wholes[place], without[place]), lean, base)
    return found


def _with_integers(wide, lean, base):
    shared = lcm(wide[1], lean[1], base[1])
    return tuple([top * (shared // bottom) for top, bottom in (wide, lean, base)]) + (shared,)


def rows_of_branches(slopes, level, most):
    """The list of the pairs (worth, row) of all low rows to a level, or None if there are more than `most`.

    Each part of a row that is made goes on to some low row, so there are never more of them than low rows.
    """
    begun = [(level, (0,) * len(slopes.order))]
    for place in slopes.order:
        begun = _rows_one_longer(slopes, place, begun, most)
        if begun is None:
            return None
    return [(level - unused, full) for unused, full in begun]


def _rows_one_longer(slopes, place, begun, most):
    """The pairs of all parts of rows that have an entry at one more place, or None if there are more than `most`."""
    longer = []
    for left, row in begun:
        longer.extend(_with_entries(slopes, place, (left, row), most))
        if len(longer) > most:
            return None
    return longer


def _with_entries(slopes, place, begun, most):
    """The pairs of what is left of the level, and of a row that has entries at one more place."""
    left, row = begun
    parent = slopes.parents[place]
    above, top = 0, left
    if parent is not None:
        above = row[parent]
        top = left + slopes.least(place, above)
    found = slopes.choices(place, above, top, most)
    return [(rest, row[:place] + (entry,) + row[place + 1:]) for entry, rest in found]
