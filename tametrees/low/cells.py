"""The cells of boxes of rows, and their worths in a class. Nothing is checked here."""

from tametrees.low.lowest import presses_of_class, worth_in_class
from tametrees.trees.shapes import presses_of
from tametrees.trees.trees import near_of


def cell_count(low, high):
    """How many cells the box has."""
    total = 1
    for least, most in zip(low, high):
        total = total * (2 * (most - least) + 1)
    return total


def cells_of_box(tree, class_, low, high):
    """The list of the pairs (worth, parity) of all cells of a box; the parity tells whether I has oddly many places."""
    places = [place for place in range(tree.size) if high[place] > low[place]]
    manies = [high[place] - low[place] + 1 for place in places]
    worths = _row_worths(tree, class_, low, (places, manies))
    parities = [0]
    for many in manies:
        worths = _with_cells(worths, many)
        parities = [(parity + at) % 2 for parity in parities for at in range(2 * many - 1)]
    return list(zip(worths, parities))


def _row_worths(tree, class_, low, span):
    """The list of the worths of all rows of a box; what is added at the first place of the span changes last."""
    near = near_of(tree)
    pressed = presses_of_class(tree, class_)
    presses = [one + other for one, other in zip(pressed, presses_of(tree.numbers, near, low))]
    places, manies = span
    found = [(worth_in_class(tree, class_, low), ())]
    for at, many in enumerate(manies):
        beside = [ahead for ahead in range(at) if places[ahead] in near[places[at]]]
        told = (tree[places[at]], presses[places[at]], beside)
        found = [longer for begun in found for longer in _added_at_place(begun, many, told)]
    return [worth for worth, _ in found]


def _added_at_place(begun, many, told):
    """The pairs of the worth and of what is added, for 0, 1, .. added at one more place."""
    worth, added = begun
    number, press, beside = told
    step = 1 - press - sum([added[ahead] for ahead in beside])
    return [(worth + more * step + number * (more * (more - 1) // 2), added + (more,)) for more in range(many)]


def _with_cells(worths, many):
    """The worths with those of the cells along the first place, which then stands behind all others.

    The worth of such a cell is the greater one of those of the two cells at its ends.
    """
    width = len(worths) // many
    blocks = [worths[at * width:(at + 1) * width] for at in range(many)]
    wide = [blocks[0]]
    for ahead, behind in zip(blocks, blocks[1:]):
        wide.append([max(one, other) for one, other in zip(ahead, behind)])
        wide.append(behind)
    return [block[at] for at in range(width) for block in wide]
