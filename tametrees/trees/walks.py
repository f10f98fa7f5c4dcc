"""Ways through trees from a root: what lies behind what, codes, and all likenesses.

The branch of a place is the place with all places behind it, as seen from the root.
"""


def rooted(near, root, gone=()):
    """The places that hang together with the root without the places `gone`, and all parents.

    Each place stands behind its parent in the list of places. The parent is None for the root.
    """
    parents = [None for _ in near]
    order = [root]
    looked_at = 0
    while looked_at < len(order):
        here = order[looked_at]
        for place in near[here]:
            if place != parents[here] and place not in gone:
                parents[place] = here
                order.append(place)
        looked_at = looked_at + 1
    return order, parents


def path_of(near, one, other):
    """The tuple of the places from `one` to `other`."""
    _, parents = rooted(near, other)
    path = [one]
    while path[-1] != other:
        path.append(parents[path[-1]])
    return tuple(path)


class Branches:
    """A tree seen from a root: `codes` and `parents` of all places.

    The code of a place is the least one that walks of its branch tell, if it is their root.
    """

    def __init__(self, numbers, near, root):
        order, parents = rooted(near, root)
        codes = [() for _ in numbers]
        for place in reversed(list(order)):
            behind = sorted([codes[child] for child in near[place] if child != parents[place]])
            codes[place] = ((0, numbers[place]),) + _one_deeper(behind)
        self.codes = codes
        self.parents = parents


def _one_deeper(codes):
    """All pairs of some codes, one code after the other, each pair one tie farther from the root."""
    return tuple([(depth + 1, number) for code in codes for depth, number in code])


def least_code(numbers, near):
    """The least tuple of pairs that some walk from some root tells.

    Codes of branches can be sorted one by one: each begins with its only pair of its depth.
    """
    return min([Branches(numbers, near, root).codes[root] for root in range(len(numbers))])


def likenesses_from(mine, yours, start):
    """A generator of the likenesses that lead the place 0 to the place `start`, ascending.

    `mine` and `yours` are the branches seen from 0 and from `start`, with equal codes there.
    A mapping that `_longer` makes can always be completed, so no way is gone in vain.
    """
    size = len(mine.codes)
    waiting = [(start,) + (None,) * (size - 1)]
    while waiting:
        mapping = waiting.pop()
        if None not in mapping:
            yield mapping
        else:
            place = mapping.index(None)
            found = [_longer(mine, yours, mapping, (place, spot)) for spot in range(size)]
            waiting.extend([longer for longer in reversed(list(found)) if longer is not None])


def _longer(mine, yours, mapping, pair):
    """The mapping with one more place and all places ahead of it, or None if this cannot be."""
    place, spot = pair
    longer = list(mapping)
    while longer[place] is None:
        if spot is None or spot in longer or mine.codes[place] != yours.codes[spot]:
            return None
        longer[place] = spot
        place, spot = mine.parents[place], yours.parents[spot]
    return tuple(longer) if longer[place] == spot else None
