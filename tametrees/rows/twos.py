"""Trees whose numbers are all 2, and their rows whose product with themselves is -2."""

from tametrees.errors import Refused
from tametrees.rows.steps import least_cycle
from tametrees.trees.definite import check_definite, is_definite
from tametrees.trees.shapes import presses_of, unit_row
from tametrees.trees.trees import check_tree, near_of
from tametrees.trees.walks import rooted

LINE = "line"
FORK = "fork"
LEGS = "legs"


def twos_kind(tree):
    """The pair of the word of the kind and the number of the places; None if the tree is not definite."""
    _check_twos(tree)
    if not is_definite(tree):
        return None
    return (_word_of(tree), tree.size)


def _check_twos(tree):
    check_tree(tree)
    for place, number in enumerate(tree.numbers):
        if number != 2:
            raise Refused(("number", place))


def _word_of(tree):
    forks = [place for place, degree in enumerate(tree.degrees) if degree == 3]
    if len(forks) == 0:
        return LINE
    near = near_of(tree)
    parts = [rooted(near, beside, forks) for beside in near[forks[0]]]
    sizes = sorted([len(places) for places, _ in parts])
    return FORK if sizes[1] == 1 else LEGS


def two_rows(tree):
    """The ascending tuple of all two-rows of a definite tree."""
    found = [row for rows in _rows_by_height(tree) for row in rows]
    opposite = [tuple([-entry for entry in row]) for row in found]
    return tuple(sorted(found + opposite))


def two_count(tree):
    """The number of the two-rows."""
    row = greatest_two(tree)
    return tree.size * (sum(row) + 1)


def greatest_two(tree):
    """The two-row whose entries are greatest: Z."""
    _check_twos(tree)
    return least_cycle(tree)


def two_heights(tree):
    """How many two-rows have the height 1, the height 2, and so on, to that of Z."""
    return tuple([len(rows) for rows in _rows_by_height(tree)])


def _rows_by_height(tree):
    """For each height from 1 on the list of the two-rows with entries of at least 0."""
    _check_twos(tree)
    check_definite(tree)
    near = near_of(tree)
    rows = [unit_row(place, tree.size) for place in range(tree.size)]
    found = []
    while len(rows) > 0:
        found.append(rows)
        rows = _rows_above(tree, near, rows)
    return found


def _rows_above(tree, near, rows):
    """The two-rows that come of some by adding 1 at a place where the press is 1, each once."""
    found = {}
    for row in rows:
        for place, press in enumerate(presses_of(tree.numbers, near, row)):
            if press == 1:
                found[row[:place] + (row[place] + 1,) + row[place + 1:]] = True
    return list(found)
