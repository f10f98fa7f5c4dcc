"""Trees that are tame but for one place, and the least worths tau of the rows with told entries at this place."""

from tametrees.base.fractions import is_integer
from tametrees.base.kinds import is_whole_within
from tametrees.errors import InvalidNumber, Refused, TooMany
from tametrees.low.lifts import Lifts
from tametrees.low.stretches import stretch_code
from tametrees.rows.depth import k_row
from tametrees.rows.tame import is_tame
from tametrees.trees.definite import is_definite
from tametrees.trees.groups import check_class, check_classed
from tametrees.trees.trees import check_place, made_tree

MAX_LIFT = 5000
MAX_LEVEL = 100

# The number that a place gets, and with which the tree is tame if the place is near.
_GREAT = 1000
_MOST = 200


def near_places(tree):
    """The ascending tuple of the near places."""
    check_classed(tree)
    return tuple([place for place in range(tree.size) if _is_near(tree, place)])


def _is_near(tree, place):
    changed = made_tree(tree.numbers[:place] + (_GREAT,) + tree.numbers[place + 1:], tree.ties)
    # A place that the package made itself can have an even greater number, without which the tree is not definite.
    return is_definite(changed) and is_tame(changed)


def lifted_row(tree, place, class_, number):
    """x(number), less the boxed row: a row of integers."""
    _check_three(tree, place, class_)
    _check_many(number)
    lifts = Lifts(tree, place, class_)
    lifts.go_on(number)
    return lifts.row_now()


def tau(tree, place, class_, many):
    """The tuple of tau(0), tau(1), .., tau(many)."""
    _check_three(tree, place, class_)
    _check_many(many)
    return tuple(_first_taus(tree, place, class_, many))


def tau_code(tree, place, class_, level):
    """The code of the stair of the tau pieces to a level."""
    _check_three(tree, place, class_)
    if not is_integer(level) or level > MAX_LEVEL:
        raise InvalidNumber(level)
    last = _end_of_falls(tree, place)
    lifts = Lifts(tree, place, class_)
    found = [lifts.worth_now()]
    # From the last fall on tau does not fall, so what is above the level there stays above it.
    while len(found) <= last or found[-1] <= level:
        if len(found) > MAX_LIFT:
            raise TooMany(MAX_LIFT)
        lifts.go_on(1)
        found.append(lifts.worth_now())
    return stretch_code(found, level)


def near_count(tree, place, class_):
    """The count of a class, by tau.

    Each stretch of indices with a tau of at most a level begins with 0, or behind a tau above the level. So the
    sum over all levels is that of all falls of tau, less tau(0).
    """
    _check_three(tree, place, class_)
    found = _first_taus(tree, place, class_, _end_of_falls(tree, place))
    return sum([max(0, value - behind) for value, behind in zip(found, found[1:])]) - found[0]


def _check_three(tree, place, class_):
    check_classed(tree)
    check_place(tree, place)
    check_class(tree, class_)


def _check_many(value):
    if not is_whole_within(value, 0, _MOST):
        raise InvalidNumber(value)


def _end_of_falls(tree, place):
    """The least index from 0 on that is at least the entry of -K at a near place: from it on tau does not fall."""
    if not _is_near(tree, place):
        raise Refused(("near",))
    top, bottom = k_row(tree)[place]
    if -top > MAX_LIFT * bottom:
        raise TooMany(MAX_LIFT)
    return max(0, -(top // bottom))


def _first_taus(tree, place, class_, many):
    lifts = Lifts(tree, place, class_)
    found = [lifts.worth_now()]
    for _ in range(many):
        lifts.go_on(1)
        found.append(lifts.worth_now())
    return found
