"""Taking places with the number 1 down, and putting them up; least trees, and which trees are kin."""

from tametrees.base.kinds import is_index
from tametrees.errors import InvalidOperation, TooMany
from tametrees.trees.definite import check_definite
from tametrees.trees.shapes import ties_among
from tametrees.trees.trees import are_alike, check_place, check_tree, is_likeness, likenesses, made_tree

MAX_PLACES = 40
KIN = "kin"
APART = "apart"


def takeable(tree):
    """The ascending tuple of the places that can be taken down."""
    check_tree(tree)
    return tuple([place for place in range(tree.size) if _can_go(tree, place)])


def _can_go(tree, place):
    beside = tree.neighbours(place)
    if tree.size == 1 or tree[place] != 1 or len(beside) > 2:
        return False
    return all([tree[other] >= 1 for other in beside])


def taken_down(tree, place):
    """The tree without a place that can be taken down."""
    check_tree(tree)
    check_place(tree, place)
    if not _can_go(tree, place):
        raise InvalidOperation("this place cannot be taken down")
    beside = tree.neighbours(place)
    kept = [other for other in range(tree.size) if other != place]
    numbers = [tree[other] - 1 if other in beside else tree[other] for other in kept]
    ties = tree.ties + (beside,) if len(beside) == 2 else tree.ties
    return made_tree(tuple(numbers), tuple(sorted(ties_among(kept, ties))))


def put_at_place(tree, place):
    """The tree with a new place, the last one, that is tied to a place."""
    check_tree(tree)
    check_place(tree, place)
    return _with_new_place(tree, (place,), tree.ties)


def put_at_tie(tree, one, other):
    """The tree with a new place, the last one, within the tie of two places."""
    check_tree(tree)
    check_place(tree, one)
    check_place(tree, other)
    if other not in tree.neighbours(one):
        raise InvalidOperation("these places are not tied")
    gone = (min(one, other), max(one, other))
    return _with_new_place(tree, gone, tuple([tie for tie in tree.ties if tie != gone]))


def _with_new_place(tree, beside, ties):
    """The tree with a new place that is tied to the places `beside`, whose numbers rise."""
    if tree.size >= MAX_PLACES:
        raise TooMany(MAX_PLACES)
    numbers = [number + 1 if place in beside else number for place, number in enumerate(tree.numbers)]
    new = [(place, tree.size) for place in beside]
    return made_tree(tuple(numbers) + (1,), tuple(sorted(list(ties) + new)))


def least_tree(tree):
    """The tree that is left of a definite tree if the least place that can be taken down goes, again and again."""
    trees, _ = way_down(tree)
    return trees[-1]


def way_down(tree):
    """The trees from a definite tree to its least tree, and the place that goes from each but the last one."""
    check_definite(tree)
    trees, places, _ = way_down_beside(tree, None)
    return trees, places


def way_down_beside(tree, kept):
    """The same, but a place that is kept does not go, and how it is called at the end; None stands for no place."""
    trees = [tree]
    places = []
    staying = kept
    found = _takeable_beside(tree, staying)
    while len(found) > 0:
        places.append(found[0])
        trees.append(taken_down(trees[-1], found[0]))
        if staying is not None and found[0] < staying:
            staying -= 1
        found = _takeable_beside(trees[-1], staying)
    return tuple(trees), tuple(places), staying


def _takeable_beside(tree, kept):
    return [place for place in takeable(tree) if place != kept]


def are_kin(one, other):
    """Whether taking down and putting up lead from one definite tree to one that is alike to the other one."""
    check_definite(one)
    check_definite(other)
    return are_alike(least_tree(one), least_tree(other))


def kin_paper(one, other):
    """A paper that shows whether two definite trees are kin: rows down of both, and what the trees left are."""
    check_definite(one)
    check_definite(other)
    trees, first = way_down(one)
    trees_of_other, second = way_down(other)
    left, left_of_other = trees[-1], trees_of_other[-1]
    for likeness in likenesses(left, left_of_other):
        return (KIN, first, second, likeness)
    return (APART, first, second)


def is_kin_paper(one, other, value):
    """Whether the value is a kin paper of two definite trees."""
    check_definite(one)
    check_definite(other)
    if not isinstance(value, tuple) or len(value) not in (3, 4):
        return False
    left, left_of_other = _left_by(one, value[1]), _left_by(other, value[2])
    if left is None or left_of_other is None:
        return False
    if len(value) == 3:
        return value[0] == APART and not are_alike(left, left_of_other)
    return value[0] == KIN and is_likeness(left, left_of_other, value[3])


def _left_by(tree, value):
    """The tree that a row down leaves, or None if the value is no row down of the tree."""
    if not isinstance(value, tuple):
        return None
    left = tree
    for place in value:
        if not is_index(place, left.size) or not _can_go(left, place):
            return None
        left = taken_down(left, place)
    return left if len(takeable(left)) == 0 else None
