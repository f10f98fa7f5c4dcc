"""Wu lots: places whose lot row has odd presses just where the numbers are odd."""

from tametrees.base.kinds import are_indices
from tametrees.errors import InvalidOperation, TooMany
from tametrees.odd.heights import odd_class
from tametrees.odd.parities import parity_rows
from tametrees.trees.groups import check_classed
from tametrees.trees.shapes import presses_of
from tametrees.trees.trees import check_tree, near_of

MAX_LOTS = 400


def wu_lots(tree):
    """The ascending tuple of all Wu lots."""
    check_tree(tree)
    found = parity_rows(_parity_table(tree), [number % 2 for number in tree.numbers], MAX_LOTS)
    if found is None:
        raise TooMany(MAX_LOTS)
    return tuple(sorted([tuple([place for place, entry in enumerate(row) if entry == 1]) for row in found]))


def _parity_table(tree):
    """The table, modulo 2: so its product with a row tells whether the presses of the row are odd."""
    return [[entry % 2 for entry in row] for row in tree.table]


def is_wu_lot(tree, value):
    """Whether the value is a Wu lot."""
    check_tree(tree)
    if not are_indices(value, tree.size):
        return False
    return all([(press - number) % 2 == 0 for press, number in zip(_lot_presses(tree, value), tree.numbers)])


def _lot_presses(tree, lot):
    """The presses of the lot row."""
    row = tuple([1 if place in lot else 0 for place in range(tree.size)])
    return presses_of(tree.numbers, near_of(tree), row)


def wu_number(tree, lot):
    """The sum of the numbers of the places of a Wu lot, less the size of the tree."""
    check_tree(tree)
    _check_lot(tree, lot)
    return sum([tree[place] for place in lot]) - tree.size


def wu_class(tree, lot):
    """The class of half of the lot row less K."""
    check_classed(tree)
    _check_lot(tree, lot)
    return odd_class(tree, _lot_presses(tree, lot))


def _check_lot(tree, value):
    if not is_wu_lot(tree, value):
        raise InvalidOperation("this is no Wu lot of the tree")
