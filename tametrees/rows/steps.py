"""Steps up from rows to the least rows that keep bounds, and the least quiet row of integers, Z."""

from tametrees.base.kinds import is_index
from tametrees.base.ratios import pair_of, ratio_sum, with_common_bottom
from tametrees.errors import TooMany
from tametrees.rows.climbs import climb_to_end, row_of_steps
from tametrees.trees.definite import check_definite
from tametrees.trees.shapes import presses_of, unit_row
from tametrees.trees.trees import check_number_row, check_row, near_of

MOST_STEPS = 10000


def is_quiet(tree, row, *, bounds=None):
    """Whether the row keeps the bounds."""
    return max(_excess(tree, row, bounds)) <= 0


def quiet_above(tree, row, *, bounds=None):
    """The row at which steps end: the least one at or above the row that keeps the bounds and differs by integers."""
    places = _steps_to_end(tree, _excess(tree, row, bounds))
    added = row_of_steps(tree.size, places)
    return tuple([ratio_sum(pair_of(number), (more, 1)) for number, more in zip(row, added)])


def steps_above(tree, row, *, bounds=None):
    """A tuple of the places at which 1 is added, one step after the other, until the row keeps the bounds."""
    return tuple(_steps_to_end(tree, _excess(tree, row, bounds)))


def is_steps(tree, row, value, *, bounds=None):
    """Whether the value is a tuple of the places of steps at whose end the row keeps the bounds."""
    left = _excess(tree, row, bounds)
    if not isinstance(value, tuple):
        return False
    near = near_of(tree)
    for place in value:
        if not is_index(place, tree.size) or left[place] <= 0:
            return False
        left[place] -= tree[place]
        for other in near[place]:
            left[other] += 1
    return max(left) <= 0


def least_cycle(tree):
    """The least quiet row of integers other than 0: Z."""
    check_definite(tree)
    start = unit_row(0, tree.size)
    places = _steps_to_end(tree, presses_of(tree.numbers, near_of(tree), start))
    return row_of_steps(tree.size, [0] + places)


def _excess(tree, row, bounds):
    """For each place the least integer that is not below the press of the row, less the bound.

    Steps are taken where it is above 0, for steps change presses by integers.
    """
    check_definite(tree)
    check_number_row(tree, row)
    if bounds is not None:
        check_row(tree, bounds)
    tops, bottom = with_common_bottom(row)
    raised = [-(-press // bottom) for press in presses_of(tree.numbers, near_of(tree), tops)]
    if bounds is None:
        return raised
    return [press - bound for press, bound in zip(raised, bounds)]


def _steps_to_end(tree, presses):
    found = climb_to_end(tree.numbers, near_of(tree), presses, MOST_STEPS)
    if found is None:
        raise TooMany(MOST_STEPS)
    return found
