"""What several tests share: odd values, checks of errors, and trees told by slow and plain ways."""

import copy
import functools
import itertools
import random

from fractions import Fraction

from tametrees import errors
from tametrees.desk.desk import Desk
from tametrees.trees.definite import determinant_of, is_definite
from tametrees.trees.kin import put_at_place, put_at_tie
from tametrees.trees.trees import Tree, made_tree

BIG = 10 ** 60 - 1
TOO_BIG = 10 ** 60
LONG = 10 ** 99 + 7


def odd_values():
    """Values of every kind that a caller may pass by mistake, made anew for each call."""
    deep = 1
    for _ in range(8):
        deep = (deep,)
    deep_list = []
    for _ in range(7):
        deep_list = [deep_list]
    return [
        None, True, False, 0, 1, -1, 2, 13, 61, BIG, TOO_BIG, -TOO_BIG, LONG, -LONG,
        "", "tree", "0", "bar", "x" * 3000, "line\nline",
        (), (0,), (1,), (0, 1), (1, 2), (2, 4), (1, 0), (1, -2), (True, 2), (1, True), (None, None),
        (1, TOO_BIG), (TOO_BIG, 1), ((1, 2), (1, 3)), ((0, 1),), ((0, 1), (1, 2)), ("bar", (1,)), ("pivots", ()),
        ("bar",), ("pivots", ((1, 1),)), ((),), ((), ()), ([],), ({},), ((True,),), ((None,),), ("a", "b"),
        [], [0], [1, 2], [[1, 2], [3, 4]], [(0, 1)], {}, {0: 1}, {"tree": (1,)}, {(0, 1): [1]},
        deep, deep_list, Tree((2,), ()), (Tree((2,), ()),), [Tree((2,), ())],
        errors.InvalidNumber(3), (errors.Refused(("bar",)), 1), Desk(), (Desk(), "a"), ("tame", Desk()),
    ]


def kept_by(error):
    """What an error keeps: the name of its attribute and the value, or None."""
    for name in ("spot", "given", "name", "limit", "reason", "steps"):
        if isinstance(error, (errors.ParseError, errors.InvalidNumber, errors.UnknownName, errors.TooMany,
                              errors.Refused, errors.NothingToUndo)) and hasattr(error, name):
            value = getattr(error, name)
            if name != "name" or isinstance(error, errors.UnknownName):
                return name, value
    return None


NO_VALUE = object()


def check_error(case, kind, kept, call, /, *values, **words):
    """The call raises just this class of error, keeps `kept`, and changes nothing that it was passed."""
    before = copy.deepcopy([part for part in values if isinstance(part, (list, dict, tuple))])
    with case.assertRaises(kind) as caught:
        call(*values, **words)
    case.assertIs(type(caught.exception), kind)
    if kept is not NO_VALUE:
        found = kept_by(caught.exception)
        case.assertIsNotNone(found)
        case.assertIs(type(found[1]), type(kept))
        case.assertTrue(found[1] is kept or found[1] == kept, (found, kept))
    after = [part for part in values if isinstance(part, (list, dict, tuple))]
    case.assertEqual(plain(before), plain(after))


def plain(value):
    """The value with each tree and each error told by its parts, so that copies can be compared."""
    if isinstance(value, Tree):
        return ("tree", value.numbers, value.ties)
    if isinstance(value, BaseException):
        return ("error", type(value).__name__, plain(value.args))
    if isinstance(value, (tuple, list)):
        return (type(value).__name__, [plain(part) for part in value])
    if isinstance(value, dict):
        return ("dict", [(plain(key), plain(value[key])) for key in value])
    return (type(value).__name__, value)


def check_same(case, value, expected):
    """The value is just the expected one, in kinds too: True is not 1, a list is no tuple."""
    case.assertEqual(plain(value), plain(expected))


def is_whole(value):
    return type(value) is int


def line_ties(size):
    return tuple((place, place + 1) for place in range(size - 1))


def made_line(numbers):
    """A line of any length with any numbers, made as the package makes trees itself."""
    return made_tree(tuple(numbers), line_ties(len(numbers)))


def made_star(middle, others):
    return made_tree((middle,) + tuple(others), tuple((0, place) for place in range(1, len(others) + 1)))


def tie_sets(size):
    """All tuples of ties that make a tree of this size, by trying all choices of pairs."""
    pairs = list(itertools.combinations(range(size), 2))
    return [ties for ties in itertools.combinations(pairs, size - 1) if is_one_piece(size, ties)]


def is_one_piece(size, ties):
    names = list(range(size))
    for one, other in ties:
        old, new = names[one], names[other]
        names = [new if name == old else name for name in names]
    return len(set(names)) == 1


def small_trees(size, numbers):
    """All trees of a size with numbers out of a few."""
    for ties in tie_sets(size):
        for choice in itertools.product(numbers, repeat=size):
            yield Tree(choice, ties)


def random_tree(source, size, low, high):
    """A tree that a seeded source makes: each place is tied to some place ahead of it, names mixed."""
    names = list(range(size))
    source.shuffle(names)
    ties = []
    for place in range(1, size):
        pair = sorted((names[place], names[source.randrange(place)]))
        ties.append(tuple(pair))
    return made_tree(tuple(source.randint(low, high) for _ in range(size)), tuple(sorted(ties)))


def random_trees(seed, count, sizes, low, high):
    source = random.Random(seed)
    return [random_tree(source, source.choice(sizes), low, high) for _ in range(count)]


def neighbours_by_ties(tree, place):
    return [one + other - place for one, other in tree.ties if place in (one, other)]


def product_by_ties(tree, one, other):
    """The product as [0.10] tells it, for rows of integers or of Fractions."""
    total = 0
    for low, high in tree.ties:
        total += one[low] * other[high] + one[high] * other[low]
    for place, number in enumerate(tree.numbers):
        total -= number * one[place] * other[place]
    return total


def press_by_ties(tree, row):
    return [sum(row[other] for other in neighbours_by_ties(tree, place)) - tree.numbers[place] * row[place]
            for place in range(tree.size)]


def pair(fraction):
    """The pair of a Fraction or an int."""
    return (fraction.numerator, fraction.denominator)


def definite_trees(seed, count, sizes, low, high, most=None):
    """Definite trees that a seeded source makes, with a determinant of at most `most` if it is told."""
    source = random.Random(seed)
    found = []
    while len(found) < count:
        tree = random_tree(source, source.choice(sizes), low, high)
        if is_definite(tree) and (most is None or determinant_of(tree) <= most):
            found.append(tree)
    return found


def put_up_often(source, tree, many):
    """The tree with so many more places, put up where a seeded source says."""
    for _ in range(many):
        if tree.ties and source.random() < 0.6:
            tree = put_at_tie(tree, *source.choice(tree.ties))
        else:
            tree = put_at_place(tree, source.randrange(tree.size))
    return tree


def put_up_to_sum(total, extra):
    """A tree that is kin to the lone place with 1, and a row of it whose entries add up to `total`.

    The entry at a new place is the entry at the place, or the sum of both at the tie, and `extra`.
    """
    tree, row = Tree((1,), ()), [1]
    while sum(row) < total:
        rest = total - sum(row)
        choices = [(row[place] + extra, (place,)) for place in range(tree.size)]
        choices += [(row[low] + row[high] + extra, (low, high)) for low, high in tree.ties]
        entry, beside = max(choice for choice in choices if choice[0] <= rest and rest - choice[0] not in range(1, extra + 1))
        tree = put_at_place(tree, *beside) if len(beside) == 1 else put_at_tie(tree, *beside)
        row.append(entry)
    return tree, tuple(row)


def wild_trees():
    """Trees that are definite but not tame, even ones and deep ones, of one to eight places."""
    stars = [
        (1, (2, 3, 7)), (1, (2, 3, 8)), (1, (3, 3, 4)), (1, (2, 4, 5)), (1, (3, 4, 5)), (1, (2, 3, 13)), (1, (5, 5, 5)),
        (2, (2, 2, 2, 3)), (2, (3, 3, 3, 3)), (2, (2, 3, 3, 3)), (2, (3, 3, 3, 3, 3)), (2, (3, 3, 3, 3, 4)), (3, (2, 2, 2, 2, 2)),
        (3, (3, 3, 3, 3, 3, 3)), (4, (2,) * 7), (2, (2, 3, 7, 60)), (1, (4, 4, 4)), (3, (4, 4, 4, 4, 4, 4, 4)),
    ]
    found = [Tree.star(middle, tuple((leg,) for leg in legs)) for middle, legs in stars]
    found += [
        Tree.star(1, ((2,), (3,), (7, 2))), Tree.star(2, ((2, 2), (2, 2), (2, 3))), Tree.star(2, ((2,), (2, 2, 2), (2, 2, 3))),
        Tree.star(2, ((2,), (2,), (2, 3), (2,))), Tree.star(2, ((2,), (2,), (3,), (2, 2))), Tree((2, 2, 2, 2, 3, 2, 2), ((0, 1), (0, 2), (0, 3), (0, 4), (4, 5), (4, 6))),
        Tree((2, 3, 3, 3, 4, 2, 2), ((0, 1), (0, 2), (0, 3), (0, 4), (4, 5), (4, 6))),
    ]
    return [tree for tree in found if is_definite(tree)]


def units(tree):
    """The rows e(0), e(1), .."""
    return [tuple(int(place == other) for other in range(tree.size)) for place in range(tree.size)]


def fractions_of(row):
    """The Fractions of a row of integers and pairs."""
    return [Fraction(*entry) if isinstance(entry, tuple) else Fraction(entry) for entry in row]


@functools.lru_cache(maxsize=None)
def _undone_by_elimination(numbers, ties):
    """The rows, as Fractions, with the press 1 at one place and 0 elsewhere: by Gauss steps on the table."""
    size = len(numbers)
    rows = [[Fraction(entry) for entry in row] + [Fraction(int(at == place)) for at in range(size)]
            for place, row in enumerate(made_tree(numbers, ties).table)]
    for at in range(size):
        spot = next(row for row in range(at, size) if rows[row][at] != 0)
        rows[at], rows[spot] = rows[spot], rows[at]
        rows[at] = [entry / rows[at][at] for entry in rows[at]]
        for row in range(size):
            if row != at and rows[row][at] != 0:
                rows[row] = [entry - rows[row][at] * above for entry, above in zip(rows[row], rows[at])]
    return [row[size:] for row in rows]


def row_by_presses(tree, presses):
    """The row, as Fractions, that has these presses."""
    return [sum((entry * press for entry, press in zip(row, presses)), Fraction(0))
            for row in _undone_by_elimination(tree.numbers, tree.ties)]


def k_by_elimination(tree):
    """The row K, as Fractions."""
    return row_by_presses(tree, [number - 2 for number in tree])


def worth_by_k(tree, row):
    """The worth of a row of integers or Fractions, as [0.14] tells it."""
    return -product_by_ties(tree, row, [entry + more for entry, more in zip(row, k_by_elimination(tree))]) / 2


def worth_by_numbers(tree, row):
    """The worth of a row of integers as [9.1] tells it."""
    total = sum(Fraction(number * x * x - (number - 2) * x, 2) for number, x in zip(tree.numbers, row))
    return total - sum(row[low] * row[high] for low, high in tree.ties)


def is_at_or_above(row, other):
    return all(x >= y for x, y in zip(row, other))


def presses_of_boxed_row(tree, class_):
    """The presses, integers, of the boxed row of a class."""
    whole = determinant_of(tree)
    return [press // whole for press in press_by_ties(tree, class_)]


def added_by_steps(tree, presses, bounds, kept=None):
    """What single steps add to a row with these presses until no press but that at `kept` is above its bound."""
    left, added = [press - bound for press, bound in zip(presses, bounds)], [0] * tree.size
    places = [place for place in range(tree.size) if place != kept and left[place] > 0]
    while places:
        place = places[0]
        added[place] += 1
        left[place] -= tree[place]
        for other in neighbours_by_ties(tree, place):
            left[other] += 1
        places = [place for place in range(tree.size) if place != kept and left[place] > 0]
    return tuple(added)


def sum_of_rows(one, other):
    return tuple(x + y for x, y in zip(one, other))


def quiet_by_steps(tree, class_):
    """The least quiet row at or above the boxed row, less the boxed row."""
    return added_by_steps(tree, presses_of_boxed_row(tree, class_), (0,) * tree.size)


def far_by_steps(tree, class_):
    """The least far row above that one, less the boxed row."""
    low = quiet_by_steps(tree, class_)
    presses = sum_of_rows(presses_of_boxed_row(tree, class_), press_by_ties(tree, low))
    return sum_of_rows(low, added_by_steps(tree, presses, [2 - number for number in tree]))


def lifted_by_steps(tree, place, class_, number):
    """x(number), less the boxed row."""
    row = list(quiet_by_steps(tree, class_))
    row[place] += number
    presses = sum_of_rows(presses_of_boxed_row(tree, class_), press_by_ties(tree, row))
    return sum_of_rows(row, added_by_steps(tree, presses, (0,) * tree.size, place))


def worth_in_by_numbers(tree, class_, row):
    """The worth in a class, an integer: that of the row, less its product with the boxed row."""
    pressed = presses_of_boxed_row(tree, class_)
    return int(worth_by_numbers(tree, row)) - sum(press * entry for press, entry in zip(pressed, row))


def some_classes(source, tree, many, classes):
    """The class 0 and a few other ones."""
    others = [class_ for class_ in classes if any(class_)]
    return [(0,) * tree.size] + source.sample(others, min(many, len(others)))
