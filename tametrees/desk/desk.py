"""A desk: trees under names, promises about them, and deeds that can be taken back."""

from tametrees.base.fractions import is_integer
from tametrees.base.kinds import is_whole_within
from tametrees.desk.promises import is_kept, is_name, is_promise, names_in
from tametrees.errors import InvalidNumber, InvalidOperation, NothingToUndo, Refused, TooMany, UnknownName
from tametrees.trees.kin import put_at_place, put_at_tie, taken_down
from tametrees.trees.trees import check_place, check_tree, made_tree

MAX_KEPT = 12
MAX_PROMISES = 12

# By how much a deed makes a number greater at the most.
_MOST_MORE = 60


class Desk:
    """Keeps trees and promises under names.

    `_states` has what is kept behind no deed, behind one deed, and so on: pairs of a dict of trees and a dict of
    promises. They never change; `_at` tells how many deeds stand.
    """

    def __init__(self):
        self._states = (({}, {}),)
        self._at = 0

    def keep(self, name, tree):
        """Keeps a tree under a name."""
        if not is_name(name):
            raise InvalidOperation("a name is a string of one to eight characters from a to z")
        check_tree(tree)
        trees = self._trees()
        if name not in trees and len(trees) >= MAX_KEPT:
            raise TooMany(MAX_KEPT)
        return self._put(name, tree)

    def put_up(self, name, *places):
        """Puts a place up at a place, or within the tie of two places."""
        tree = self.tree(name)
        if len(places) == 1:
            return self._put(name, put_at_place(tree, places[0]))
        if len(places) == 2:
            return self._put(name, put_at_tie(tree, places[0], places[1]))
        raise InvalidOperation("a place is put up at one place, or within the tie of two")

    def take_down(self, name, place):
        """Takes a place down."""
        return self._put(name, taken_down(self.tree(name), place))

    def cut(self, name, places):
        """Leaves a part of a tree."""
        return self._put(name, self.tree(name).part(places))

    def raise_number(self, name, place, *, by=1):
        """Makes the number of a place greater."""
        tree = self.tree(name)
        check_place(tree, place)
        if not is_whole_within(by, 1, _MOST_MORE):
            raise InvalidNumber(by)
        numbers = tree.numbers[:place] + (tree[place] + by,) + tree.numbers[place + 1:]
        return self._put(name, made_tree(numbers, tree.ties))

    def drop(self, name):
        """Leaves a tree out."""
        self.tree(name)
        trees = self._trees()
        return self._done({kept: trees[kept] for kept in trees if kept != name}, self._promises())

    def promise(self, label, told):
        """Keeps a further promise."""
        if not is_name(label):
            raise InvalidOperation("a label is a string of one to eight characters from a to z")
        if not is_promise(told):
            raise InvalidOperation("this is no promise")
        promises = self._promises()
        if label in promises:
            raise Refused(("label", label))
        if len(promises) >= MAX_PROMISES:
            raise TooMany(MAX_PROMISES)
        for name in names_in(told):
            self.tree(name)
        return self._done(self._trees(), {**promises, label: told})

    def release(self, label):
        """Leaves a promise out."""
        self.promised(label)
        promises = self._promises()
        return self._done(self._trees(), {kept: promises[kept] for kept in promises if kept != label})

    def undo(self, *, times=1):
        """Takes the last deeds back."""
        _check_times(times)
        if times > self._at:
            raise NothingToUndo(times)
        self._at -= times
        return self._at

    def redo(self, *, times=1):
        """Does deeds again that were taken back."""
        _check_times(times)
        if times > len(self._states) - 1 - self._at:
            raise NothingToUndo(times)
        self._at += times
        return self._at

    def during(self, call):
        """Returns what the call of the desk returns; behind it everything is as it was."""
        states = self._states
        at = self._at
        try:
            return call(self)
        finally:
            self._states = states
            self._at = at

    def tree(self, name):
        """The tree that is kept under a name."""
        if name not in self:
            raise UnknownName(name)
        return self._trees()[name]

    def promised(self, label):
        """The promise that is kept under a label."""
        promises = self._promises()
        if not is_name(label) or label not in promises:
            raise UnknownName(label)
        return promises[label]

    @property
    def names(self):
        """The ascending tuple of the names."""
        return tuple(sorted(list(self._trees())))

    @property
    def labels(self):
        """The ascending tuple of the labels."""
        return tuple(sorted(list(self._promises())))

    @property
    def deeds(self):
        """How many deeds stand."""
        return self._at

    def twin(self):
        """An equal desk with the same deeds, that goes on by itself."""
        other = Desk()
        other._states = self._states
        other._at = self._at
        return other

    def __contains__(self, value):
        return is_name(value) and value in self._trees()

    def __len__(self):
        return len(self._trees())

    def __eq__(self, value):
        if not isinstance(value, Desk):
            return False
        return self._trees() == value._trees() and self._promises() == value._promises()

    def __str__(self):
        return f"desk of {len(self._trees())} trees, {len(self._promises())} promises"

    def _trees(self):
        trees, _ = self._states[self._at]
        return trees

    def _promises(self):
        _, promises = self._states[self._at]
        return promises

    def _put(self, name, tree):
        """The deed that puts a tree in the place of that with the name."""
        trees = self._trees()
        return self._done({**trees, name: tree}, self._promises())

    def _done(self, trees, promises):
        """A deed: from now on these trees and promises are kept, if each promise is true then."""
        for label in sorted(list(promises)):
            if not is_kept(promises[label], trees):
                raise Refused(("promise", label))
        self._states = self._states[:self._at + 1] + ((trees, promises),)
        self._at += 1
        return self._at


def _check_times(value):
    if not is_integer(value) or value < 0:
        raise InvalidNumber(value)
