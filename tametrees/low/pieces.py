"""The worth of rows in a class, low rows, their pieces, and the stairs that these make."""

from tametrees.base.fractions import is_integer
from tametrees.errors import InvalidNumber, TooMany
from tametrees.low.lowest import rows_to_level, worth_in_class
from tametrees.trees.groups import check_tree_and_class
from tametrees.trees.trees import check_row

MAX_LOW = 2000
MAX_LEVELS = 100


def worth_in(tree, class_, row):
    """The worth in a class of a row of integers."""
    check_tree_and_class(tree, class_)
    check_row(tree, row)
    return worth_in_class(tree, class_, row)


def least_level(tree, class_):
    """The least worth in a class that a row of integers has."""
    found = _rows_with_worths(tree, class_, 0)
    return min([low for low, _ in found])


def low_rows(tree, class_, level):
    """The ascending tuple of the low rows to a level."""
    return tuple(sorted([row for _, row in _rows_with_worths(tree, class_, level)]))


def low_pieces(tree, class_, level):
    """The ascending tuple of the pieces of the low rows to a level."""
    joined = Joined()
    pieces = {}
    rows = low_rows(tree, class_, level)
    for row in rows:
        joined.put(row)
    for row in rows:
        pieces.setdefault(joined.head(row), []).append(row)
    return tuple([tuple(pieces[head]) for head in pieces])


def piece_counts(tree, class_, level):
    """The numbers of the pieces to the levels from the least one to the told one."""
    return tuple([len(pieces) for pieces, _ in _stair(tree, class_, level)])


def stair_code(tree, class_, level):
    """The code of the stair to a level."""
    stair = _stair(tree, class_, level)
    if len(stair) == 0:
        return ()
    last, _ = stair[-1]
    return _put_together(last)


def leaf_count(tree, class_, level):
    """How many leaves the stair to a level has."""
    return sum([leaves for _, leaves in _stair(tree, class_, level)])


class Joined:
    """Rows, and the pieces that they make: two rows are of one piece if they have the same head."""

    def __init__(self):
        self.leads = {}

    def head(self, row):
        """The row that stands for the piece of a row."""
        way = [row]
        while self.leads[way[-1]] != way[-1]:
            way.append(self.leads[way[-1]])
        for passed in way:
            self.leads[passed] = way[-1]
        return way[-1]

    def put(self, row):
        """Puts a further row to the others, and joins it to all that are next to it."""
        self.leads[row] = row
        for place, entry in enumerate(row):
            for other in (entry - 1, entry + 1):
                beside = row[:place] + (other,) + row[place + 1:]
                if beside in self.leads:
                    self.leads[self.head(beside)] = self.head(row)


def _rows_with_worths(tree, class_, level):
    """The list of the pairs (worth, row) of the low rows to a level; here all arguments are checked."""
    check_tree_and_class(tree, class_)
    if not is_integer(level):
        raise InvalidNumber(level)
    found = rows_to_level(tree, class_, level, MAX_LOW)
    if found is None:
        raise TooMany(MAX_LOW)
    return found


def _stair(tree, class_, level):
    """For each level from the least one on the list of the codes of its pieces, and how many of them are leaves."""
    found = sorted(_rows_with_worths(tree, class_, level))
    if len(found) == 0:
        return []
    if level - found[0][0] > MAX_LEVELS:
        raise TooMany(MAX_LEVELS)
    rows_at = {step: [] for step in range(found[0][0], level + 1)}
    for low, row in found:
        rows_at[low].append(row)
    joined = Joined()
    pieces = []
    stair = []
    for here in rows_at:
        under = _codes_under(joined, rows_at[here], pieces)
        pieces = [(head, (here,) + _put_together(under[head])) for head in under]
        leaves = [head for head in under if len(under[head]) == 0]
        stair.append(([code for _, code in pieces], len(leaves)))
    return stair


def _codes_under(joined, rows, pieces):
    """For the head of each piece, with some rows added, the codes of the pieces of the level below that are in it."""
    for row in rows:
        joined.put(row)
    under = {}
    for head, code in pieces:
        under.setdefault(joined.head(head), []).append(code)
    for row in rows:
        under.setdefault(joined.head(row), [])
    return under


def _put_together(codes):
    """The tuple of all parts of some codes, these ascending."""
    return tuple([part for code in sorted(codes) for part in code])
