"""Odd rows, told by their presses, and the heights of classes."""

from tametrees.base.kinds import is_whole_row
from tametrees.base.ratios import pair_of, ratio_product, ratio_sum
from tametrees.errors import InvalidRow, TooMany
from tametrees.trees.definite import check_definite, tree_determinant
from tametrees.trees.groups import check_tree_and_class
from tametrees.trees.shapes import unit_row
from tametrees.trees.solved import row_with_presses
from tametrees.trees.trees import check_row, near_of

MOST_PRESSES = 20000
MOST_STEPS = 10000


def odd_class(tree, presses):
    """The class of the odd row with these presses."""
    _check_odd_row(tree, presses)
    return _class_of_odd_row(tree, presses)


def odd_square(tree, presses):
    """The product of the odd row with itself, a fraction."""
    _check_odd_row(tree, presses)
    return _square_of(tree, presses)


def height_path(tree, presses):
    """The places of the path that always adds the least place that it can, and the presses at its end."""
    _check_odd_row(tree, presses)
    near = near_of(tree)
    left = list(presses)
    places = []
    place = _place_to_add(tree, left)
    while place is not None:
        if len(places) == MOST_STEPS:
            raise TooMany(MOST_STEPS)
        places.append(place)
        left[place] -= 2 * tree[place]
        for other in near[place]:
            left[other] += 2
        place = _place_to_add(tree, left)
    return tuple(places), tuple(left)


def height(tree, class_):
    """The height of a class, a fraction."""
    return _height_of_row(tree, highest(tree, class_))


def highest(tree, class_):
    """The presses of a highest row of a class."""
    _check_class_and_presses(tree, class_)
    return _highest_of(tree, class_)


def is_highest(tree, class_, value):
    """Whether the value is the tuple of the presses of a highest row of a class."""
    _check_class_and_presses(tree, class_)
    if not is_whole_row(value, tree.size) or not _is_odd(tree, value):
        return False
    # The height takes far longer than the class, so it comes last.
    return _class_of_odd_row(tree, value) == class_ and _height_of_row(tree, value) == height(tree, class_)


def _check_odd_row(tree, value):
    check_definite(tree)
    check_row(tree, value)
    if not _is_odd(tree, value):
        raise InvalidRow("each press differs from the number of its place by an even integer")


def _is_odd(tree, presses):
    return all([(press - number) % 2 == 0 for press, number in zip(presses, tree.numbers)])


def _check_class_and_presses(tree, class_):
    check_tree_and_class(tree, class_)
    many = 1
    for number in tree.numbers:
        many = many * number
    if many > MOST_PRESSES:
        raise TooMany(MOST_PRESSES)


def _class_of_odd_row(tree, presses):
    """The class of half of the row less K, whose presses are half of those of the row less those of K."""
    halves = [(press - number + 2) // 2 for press, number in zip(presses, tree.numbers)]
    whole = tree_determinant(tree)
    row = row_with_presses(tree.numbers, near_of(tree), halves)
    return tuple([top * (whole // bottom) % whole for top, bottom in row])


def _square_of(tree, presses):
    total = (0, 1)
    for entry, press in zip(row_with_presses(tree.numbers, near_of(tree), presses), presses):
        total = ratio_sum(total, ratio_product(entry, pair_of(press)))
    return total


def _height_of_row(tree, presses):
    return ratio_product(ratio_sum(_square_of(tree, presses), (tree.size, 1)), (1, 4))


def _place_to_add(tree, presses):
    """The least place whose press is its number, or None if there is none, or if a press is above its number."""
    over = [press - number for press, number in zip(presses, tree.numbers)]
    return over.index(0) if max(over) == 0 else None


def _highest_of(tree, class_):
    """A highest row of a class that has a press from 2 - b to b at each place, b its number; each class has one."""
    whole = tree_determinant(tree)
    units = _unit_tops(tree, whole)
    zero = (0,) * tree.size
    k_tops = zero
    found = [(zero, zero)]
    # The places with few presses come first, so that there are few rows as long as it can be.
    for number, place in sorted([(many, at) for at, many in enumerate(tree.numbers)]):
        k_tops = _with_more(k_tops, units[place], number - 2)
        found = _with_presses_at(place, number, units[place], found)
    # The tops of a row are its entries, times the determinant. So the sum is its square, times the determinant.
    right = [(presses, tops) for presses, tops in found if _class_of_tops(tops, k_tops, whole) == class_]
    keyed = [(sum([press * top for press, top in zip(presses, tops)]), presses) for presses, tops in right]
    _, best = max(keyed)
    return best


def _with_presses_at(place, number, unit, found):
    """The pairs (presses, tops) of some rows, with each press that can stand at one more place."""
    longer = []
    for presses, tops in found:
        for press in range(2 - number, number + 1, 2):
            longer.append((presses[:place] + (press,) + presses[place + 1:], _with_more(tops, unit, press)))
    return longer


def _unit_tops(tree, whole):
    """For each place the row with the press 1 there and 0 elsewhere, times the determinant: a tuple of integers."""
    near = near_of(tree)
    rows = [row_with_presses(tree.numbers, near, unit_row(place, tree.size)) for place in range(tree.size)]
    return [tuple([top * (whole // bottom) for top, bottom in row]) for row in rows]


def _with_more(tops, unit, times):
    return tuple([top + times * more for top, more in zip(tops, unit)])


def _class_of_tops(tops, k_tops, whole):
    return tuple([(top - k_top) // 2 % whole for top, k_top in zip(tops, k_tops)])
