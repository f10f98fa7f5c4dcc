"""Trees with an integer at each place, their codes and their likenesses."""

from tametrees.base.fractions import is_integer, is_number
from tametrees.base.kinds import are_indices, is_index, is_order, is_whole_within
from tametrees.base.ratios import ratio, with_common_bottom
from tametrees.errors import InvalidNumber, InvalidOperation, InvalidRow, InvalidTree
from tametrees.trees.shapes import are_ties, hang_together, near_places, ties_among, ties_renamed
from tametrees.trees.shapes import presses_of, product_of, star_parts, table_of
from tametrees.trees.walks import Branches, least_code, likenesses_from

MAX_PLACES = 12
MAX_NUMBER = 60


class Tree:
    """A tree: an integer at each place, and ties by which the places hang together."""

    def __init__(self, numbers, ties):
        if not _are_numbers(numbers):
            raise InvalidTree("a tree has a tuple of 1 to 12 integers from 0 to 60")
        if not are_ties(ties, len(numbers)):
            raise InvalidTree("the ties are an ascending tuple of pairs of places that makes a tree")
        self._fill(numbers, ties)

    def _fill(self, numbers, ties):
        self._numbers = numbers
        self._ties = ties
        self._near = near_places(len(numbers), ties)

    @classmethod
    def line(cls, numbers):
        """The tree in which each place but the last one is tied to the next one."""
        if not _are_numbers(numbers):
            raise InvalidTree("a line has a tuple of 1 to 12 integers from 0 to 60")
        return cls(numbers, tuple([(place - 1, place) for place in range(1, len(numbers))]))

    @classmethod
    def star(cls, number, legs):
        """The tree of the place 0, with `number`, and of lines whose first places are tied to it."""
        if not isinstance(legs, tuple) or not all([_are_numbers(part) for part in legs]):
            raise InvalidTree("the legs of a star are a tuple of non-empty tuples of integers from 0 to 60")
        numbers, ties = star_parts(number, legs)
        return cls(numbers, ties)

    @property
    def numbers(self):
        """The tuple of the numbers of all places."""
        return self._numbers

    @property
    def ties(self):
        """The ascending tuple of the ties."""
        return self._ties

    @property
    def size(self):
        """The number of the places."""
        return len(self._numbers)

    @property
    def degrees(self):
        """The tuple that has, for each place, how many neighbours it has."""
        return tuple([len(places) for places in self._near])

    @property
    def table(self):
        """The table: a tuple of rows, with the product of e(u) and e(w) at (u, w)."""
        return table_of(self._numbers, self._near)

    def neighbours(self, place):
        """The ascending tuple of the neighbours of a place."""
        check_place(self, place)
        return self._near[place]

    def press(self, row):
        """The tuple of all presses, fractions, of a row of numbers."""
        check_number_row(self, row)
        tops, bottom = with_common_bottom(row)
        return tuple([ratio(top, bottom) for top in presses_of(self._numbers, self._near, tops)])

    def product(self, one, other):
        """The product, a fraction, of two rows of numbers."""
        check_number_row(self, one)
        check_number_row(self, other)
        tops, bottom = with_common_bottom(one)
        more_tops, more_bottom = with_common_bottom(other)
        return ratio(product_of(self._numbers, self._near, tops, more_tops), bottom * more_bottom)

    def part(self, places):
        """The tree of some places and of the ties between them, renumbered in ascending order."""
        if not are_indices(places, len(self._numbers)) or len(places) == 0:
            raise InvalidOperation("a part has a non-empty ascending tuple of places")
        if not hang_together(places, self._near):
            raise InvalidOperation("the places of a part hang together")
        return made_tree(tuple([self._numbers[place] for place in places]), ties_among(places, self._ties))

    def with_number(self, place, number):
        """The tree with another number at a place."""
        check_place(self, place)
        if not is_whole_within(number, 0, MAX_NUMBER):
            raise InvalidNumber(number)
        return made_tree(self._numbers[:place] + (number,) + self._numbers[place + 1:], self._ties)

    def __getitem__(self, place):
        check_place(self, place)
        return self._numbers[place]

    def __contains__(self, value):
        return is_index(value, len(self._numbers))

    def __len__(self):
        return len(self._numbers)

    def __iter__(self):
        return iter(self._numbers)

    def __eq__(self, value):
        return isinstance(value, Tree) and self._numbers == value._numbers and self._ties == value._ties

    def __str__(self):
        numbers = " ".join([str(number) for number in self._numbers])
        if len(self._ties) == 0:
            return f"tree {numbers}"
        ties = " ".join([f"{one}-{other}" for one, other in self._ties])
        return f"tree {numbers}: {ties}"


def _are_numbers(value):
    """Whether the value is a tuple of as many numbers as a tree can have, each one within its bounds."""
    if not isinstance(value, tuple) or not 1 <= len(value) <= MAX_PLACES:
        return False
    return all([is_whole_within(part, 0, MAX_NUMBER) for part in value])


def made_tree(numbers, ties):
    """A tree that the package makes itself: with any numbers, and with more places than are passed."""
    tree = Tree((0,), ())
    tree._fill(numbers, ties)
    return tree


def near_of(tree):
    """For each place of a tree the ascending tuple of its neighbours."""
    return tuple([tree.neighbours(place) for place in range(tree.size)])


def check_tree(value):
    """The check of an argument that is a tree."""
    if not isinstance(value, Tree):
        raise InvalidTree("an object of Tree is expected")


def check_place(tree, value):
    """The check of an argument that is a place of the tree."""
    if not is_index(value, len(tree)):
        raise InvalidNumber(value)


def check_number_row(tree, value):
    """The check of an argument that is a row of numbers of the tree."""
    if not isinstance(value, tuple) or len(value) != len(tree):
        raise InvalidRow("a row is a tuple that has an entry for each place")
    if not all([is_number(part) for part in value]):
        raise InvalidRow("the entries of this row are integers or fractions")


def check_row(tree, value):
    """The check of an argument that is a row of integers of the tree."""
    if not isinstance(value, tuple) or len(value) != len(tree):
        raise InvalidRow("a row is a tuple that has an entry for each place")
    if not all([is_integer(part) for part in value]):
        raise InvalidRow("the entries of this row are integers")


def tree_code(tree):
    """The least tuple of pairs (ties to the root, number) that some walk of the tree tells."""
    check_tree(tree)
    return least_code(tree.numbers, near_of(tree))


def are_alike(one, other):
    """Whether there is a likeness of the first tree to the second one."""
    return tree_code(one) == tree_code(other)


def likenesses(one, other):
    """A generator of all likenesses of the first tree to the second one, ascending."""
    check_tree(one)
    check_tree(other)
    if one.size == other.size:
        mine = Branches(one.numbers, near_of(one), 0)
        for start in range(other.size):
            yours = Branches(other.numbers, near_of(other), start)
            if mine.codes[0] == yours.codes[start]:
                yield from likenesses_from(mine, yours, start)


def is_likeness(one, other, value):
    """Whether the value is a likeness of the first tree to the second one."""
    check_tree(one)
    check_tree(other)
    if one.size != other.size or not is_order(value, one.size):
        return False
    if one.numbers != tuple([other[place] for place in value]):
        return False
    return ties_renamed(value, one.ties) == other.ties


def renamed(tree, order):
    """The tree in which each place w has the name `order[w]`."""
    check_tree(tree)
    if not is_order(order, tree.size):
        raise InvalidOperation("an order is a tuple that has each place just once")
    place_named = {name: place for place, name in enumerate(order)}
    numbers = tuple([tree[place_named[name]] for name in range(tree.size)])
    return made_tree(numbers, ties_renamed(order, tree.ties))
