"""Determinants of trees, of their branches, and of what is left of them without some places."""

from tametrees.trees.walks import rooted


def branch_determinants(numbers, order, parents):
    """For each place the determinant of its branch, and that of what is left of the branch without the place.

    `order` and `parents` are what `rooted` tells. The determinant of a branch is the number of its place times that
    of what is left without the place, less, for each child, that of what is left without the place and this child.
    """
    wholes = [1 for _ in numbers]
    without = [1 for _ in numbers]
    without_child = [0 for _ in numbers]
    for place in reversed(list(order)):
        wholes[place] = numbers[place] * without[place] - without_child[place]
        parent = parents[place]
        if parent is not None:
            without_child[parent] = without_child[parent] * wholes[place] + without[parent] * without[place]
            without[parent] = without[parent] * wholes[place]
    return wholes, without


def left_of_tree(numbers, near, gone):
    """The determinant of what is left without the places `gone`: the product over the parts, 1 if there are none."""
    total = 1
    done = list(gone)
    for place in range(len(numbers)):
        if place not in done:
            order, parents = rooted(near, place, gone)
            wholes, _ = branch_determinants(numbers, order, parents)
            total = total * wholes[place]
            done.extend(order)
    return total
