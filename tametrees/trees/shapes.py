"""Places and ties of trees as plain tuples.

In this package `near` is the tuple that has, for each place, the ascending tuple of its neighbours.
"""

from tametrees.base.kinds import is_ascending, is_index


def star_parts(number, legs):
    """The numbers and the ties of a star: the place 0 with `number`, then the places of the legs, leg by leg."""
    numbers = [number]
    ties = []
    for leg in legs:
        first = len(numbers)
        ties.append((0, first))
        ties.extend([(place - 1, place) for place in range(first + 1, first + len(leg))])
        numbers.extend(leg)
    return tuple(numbers), tuple(sorted(ties))


def near_places(size, ties):
    """For each of `size` places the ascending tuple of the places that a tie of it leads to."""
    near = [[] for _ in range(size)]
    for one, other in ties:
        near[one].append(other)
        near[other].append(one)
    return tuple([tuple(sorted(places)) for places in near])


def are_ties(value, size):
    """Whether the value is an ascending tuple of ties that makes a tree of `size` places."""
    if not isinstance(value, tuple) or len(value) != size - 1:
        return False
    if not all([_is_tie(part, size) for part in value]) or not is_ascending(value):
        return False
    # So few ties hang all places together only if they make no ring.
    return hang_together(tuple(range(size)), near_places(size, value))


def _is_tie(value, size):
    if not isinstance(value, tuple) or len(value) != 2:
        return False
    return is_index(value[0], size) and is_index(value[1], size) and value[0] < value[1]


def hang_together(places, near):
    """Whether the ties among some places, at least one, lead from each of them to each."""
    reached = [places[0]]
    looked_at = 0
    while looked_at < len(reached):
        here = near[reached[looked_at]]
        reached = reached + [place for place in here if place in places and place not in reached]
        looked_at = looked_at + 1
    return len(reached) == len(places)


def ties_among(places, ties):
    """The ties between some places, each place told by its index in the ascending tuple `places`."""
    index = {place: at for at, place in enumerate(places)}
    return tuple([(index[one], index[other]) for one, other in ties if one in index and other in index])


def ties_renamed(order, ties):
    """The ascending tuple of the ties if each place w is called `order[w]`."""
    named = [sorted([order[one], order[other]]) for one, other in ties]
    return tuple(sorted([(one, other) for one, other in named]))


def table_of(numbers, near):
    """The table: the product of e(u) and e(w) at (u, w)."""
    return tuple([_table_row(numbers, near, place) for place in range(len(numbers))])


def _table_row(numbers, near, place):
    return tuple([_entry(numbers, near, place, other) for other in range(len(numbers))])


def _entry(numbers, near, one, other):
    if one == other:
        return -numbers[one]
    return 1 if other in near[one] else 0


def presses_of(numbers, near, row):
    """The tuple of the presses, at all places, of a row of integers."""
    return tuple([_press(numbers, near, row, place) for place in range(len(numbers))])


def _press(numbers, near, row, place):
    return sum([row[other] for other in near[place]]) - numbers[place] * row[place]


def product_of(numbers, near, one, other):
    """The product of two rows of integers."""
    return sum([entry * press for entry, press in zip(one, presses_of(numbers, near, other))])


def worth_of(numbers, near, row):
    """The worth of a row of integers: the opposite of half of its product with itself and K added."""
    with_k = sum([(number - 2) * entry for number, entry in zip(numbers, row)])
    return -(product_of(numbers, near, row, row) + with_k) // 2


def unit_row(place, size):
    """The row with 1 at a place, and 0 elsewhere."""
    return (0,) * place + (1,) + (0,) * (size - 1 - place)
