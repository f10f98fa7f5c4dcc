"""Tame trees, sinks, and the worth of rows of integers."""

from tametrees.base.kinds import is_index, is_whole_row
from tametrees.rows.climbs import climb_to_end
from tametrees.rows.sinks import has_lower_sink, least_sink_below, row_of_first_jump
from tametrees.rows.steps import least_cycle
from tametrees.trees.definite import check_definite
from tametrees.trees.kin import least_tree, takeable, taken_down, way_down
from tametrees.trees.shapes import hang_together, presses_of, product_of, unit_row, worth_of
from tametrees.trees.trees import check_row, check_tree, near_of

STEPS = "steps"
SINK = "sink"


def worth(tree, row):
    """The worth of a row of integers of any tree."""
    check_tree(tree)
    check_row(tree, row)
    return worth_of(tree.numbers, near_of(tree), row)


def is_tame(tree):
    """Whether the definite tree is tame."""
    # Taking down keeps how deep a tree is, and steps can be very many before that.
    least = least_tree(tree)
    return row_of_first_jump(least.numbers, near_of(least), 0) is None


def tame_paper(tree):
    """A paper that shows whether the definite tree is tame: steps that never jump, or a sink."""
    sink = least_sink(tree)
    if sink is not None:
        return (SINK, sink)
    near = near_of(tree)
    places = climb_to_end(tree.numbers, near, presses_of(tree.numbers, near, unit_row(0, tree.size)), None)
    return (STEPS, tuple([0] + places))


def is_tame_paper(tree, value):
    """Whether the value is a tame paper of the definite tree."""
    check_definite(tree)
    if not isinstance(value, tuple) or len(value) != 2:
        return False
    word, shown = value
    if word == STEPS:
        return _are_even_steps(tree, shown)
    return word == SINK and _is_sink(tree, shown)


def _are_even_steps(tree, value):
    """Whether the value has a place w, and then the places of steps from e(w) to Z none of which jumps."""
    if not isinstance(value, tuple) or len(value) == 0 or not all([is_index(part, tree.size) for part in value]):
        return False
    near = near_of(tree)
    left = list(presses_of(tree.numbers, near, unit_row(value[0], tree.size)))
    for place in value[1:]:
        if left[place] != 1:
            return False
        left[place] -= tree[place]
        for other in near[place]:
            left[other] += 1
    return max(left) <= 0


def _is_sink(tree, value):
    if not is_whole_row(value, tree.size) or min(value) < 0 or max(value) == 0:
        return False
    return worth_of(tree.numbers, near_of(tree), value) <= 0


def least_sink(tree):
    """A least sink of the definite tree, or None if it is tame."""
    trees, places = way_down(tree)
    least = trees[-1]
    near = near_of(least)
    sink = row_of_first_jump(least.numbers, near, 0)
    if sink is None:
        return None
    found = least_sink_below(least.numbers, near, sink)
    for at in reversed(range(len(places))):
        found = _put_back(trees[at], places[at], found)
    return found


def _put_back(tree, place, sink):
    """The least sink of the tree that comes of a least sink of the tree without a place that can be taken down."""
    entries = sink[:place] + (0,) + sink[place:]
    # With the sum of the neighbours the worth stays; with 1 less, too, for then the press at the place is 1.
    beside = sum([entries[other] for other in tree.neighbours(place)])
    return sink[:place] + (max(0, beside - 1),) + sink[place:]


def is_least_sink(tree, value):
    """Whether the value is a least sink of the definite tree."""
    check_definite(tree)
    if not _is_sink(tree, value):
        return False
    near = near_of(tree)
    held = tuple([place for place in range(tree.size) if value[place] > 0])
    presses = presses_of(tree.numbers, near, value)
    if not hang_together(held, near) or any([presses[place] != 2 - tree[place] for place in held]):
        return False
    return _is_least_all_over(tree.part(held), tuple([value[place] for place in held]))


def _is_least_all_over(tree, row):
    """Whether a sink, above 0 everywhere, is a least one; its press at each place is 2 less the number.

    It is so exactly if it is so without the entry at a place that can be taken down, on the tree without this place.
    """
    left, entries = tree, row
    found = takeable(left)
    while len(found) > 0:
        place = found[0]
        left, entries = taken_down(left, place), entries[:place] + entries[place + 1:]
        found = takeable(left)
    return not has_lower_sink(left.numbers, near_of(left), entries)


def multiplicity(tree):
    """The opposite of the product of Z with itself."""
    row = least_cycle(tree)
    return -product_of(tree.numbers, near_of(tree), row, row)
