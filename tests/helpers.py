"""What several tests share: odd values, checks of errors, and trees told by slow and plain ways."""

import copy
import itertools
import random

from tametrees import errors
from tametrees.trees.trees import Tree, made_tree

BIG = 10 ** 60 - 1
TOO_BIG = 10 ** 60
LONG = 10 ** 99 + 7


def odd_values():
    """Values of every kind that a caller may pass by mistake, made anew for each call."""
    deep = 1
    for _ in range(8):
        deep = (deep,)
    deep_list = []
    for _ in range(7):
        deep_list = [deep_list]
    return [
        None, True, False, 0, 1, -1, 2, 13, 61, BIG, TOO_BIG, -TOO_BIG, LONG, -LONG,
        "", "tree", "0", "bar", "x" * 3000, "line\nline",
        (), (0,), (1,), (0, 1), (1, 2), (2, 4), (1, 0), (1, -2), (True, 2), (1, True), (None, None),
        (1, TOO_BIG), (TOO_BIG, 1), ((1, 2), (1, 3)), ((0, 1),), ((0, 1), (1, 2)), ("bar", (1,)), ("pivots", ()),
        ("bar",), ("pivots", ((1, 1),)), ((),), ((), ()), ([],), ({},), ((True,),), ((None,),), ("a", "b"),
        [], [0], [1, 2], [[1, 2], [3, 4]], [(0, 1)], {}, {0: 1}, {"tree": (1,)}, {(0, 1): [1]},
        deep, deep_list, Tree((2,), ()), (Tree((2,), ()),), [Tree((2,), ())],
        errors.InvalidNumber(3), (errors.Refused(("bar",)), 1),
    ]


def kept_by(error):
    """What an error keeps: the name of its attribute and the value, or None."""
    for name in ("spot", "given", "name", "limit", "reason", "steps"):
        if isinstance(error, (errors.ParseError, errors.InvalidNumber, errors.UnknownName, errors.TooMany,
                              errors.Refused, errors.NothingToUndo)) and hasattr(error, name):
            value = getattr(error, name)
            if name != "name" or isinstance(error, errors.UnknownName):
                return name, value
    return None


NO_VALUE = object()


def check_error(case, kind, kept, call, *values, **words):
    """The call raises just this class of error, keeps `kept`, and changes nothing that it was passed."""
    before = copy.deepcopy([part for part in values if isinstance(part, (list, dict, tuple))])
    with case.assertRaises(kind) as caught:
        call(*values, **words)
    case.assertIs(type(caught.exception), kind)
    if kept is not NO_VALUE:
        found = kept_by(caught.exception)
        case.assertIsNotNone(found)
        case.assertIs(type(found[1]), type(kept))
        case.assertTrue(found[1] is kept or found[1] == kept, (found, kept))
    after = [part for part in values if isinstance(part, (list, dict, tuple))]
    case.assertEqual(plain(before), plain(after))


def plain(value):
    """The value with each tree and each error told by its parts, so that copies can be compared."""
    if isinstance(value, Tree):
        return ("tree", value.numbers, value.ties)
    if isinstance(value, BaseException):
        return ("error", type(value).__name__, plain(value.args))
    if isinstance(value, (tuple, list)):
        return (type(value).__name__, [plain(part) for part in value])
    if isinstance(value, dict):
        return ("dict", [(plain(key), plain(value[key])) for key in value])
    return (type(value).__name__, value)


def check_same(case, value, expected):
    """The value is just the expected one, in kinds too: True is not 1, a list is no tuple."""
    case.assertEqual(plain(value), plain(expected))


def is_whole(value):
    return type(value) is int


def line_ties(size):
    return tuple((place, place + 1) for place in range(size - 1))


def made_line(numbers):
    """A line of any length with any numbers, made as the package makes trees itself."""
    return made_tree(tuple(numbers), line_ties(len(numbers)))


def made_star(middle, others):
    return made_tree((middle,) + tuple(others), tuple((0, place) for place in range(1, len(others) + 1)))


def tie_sets(size):
    """All tuples of ties that make a tree of this size, by trying all choices of pairs."""
    pairs = list(itertools.combinations(range(size), 2))
    return [ties for ties in itertools.combinations(pairs, size - 1) if is_one_piece(size, ties)]


def is_one_piece(size, ties):
    names = list(range(size))
    for one, other in ties:
        old, new = names[one], names[other]
        names = [new if name == old else name for name in names]
    return len(set(names)) == 1


def small_trees(size, numbers):
    """All trees of a size with numbers out of a few."""
    for ties in tie_sets(size):
        for choice in itertools.product(numbers, repeat=size):
            yield Tree(choice, ties)


def random_tree(source, size, low, high):
    """A tree that a seeded source makes: each place is tied to some place ahead of it, names mixed."""
    names = list(range(size))
    source.shuffle(names)
    ties = []
    for place in range(1, size):
        pair = sorted((names[place], names[source.randrange(place)]))
        ties.append(tuple(pair))
    return made_tree(tuple(source.randint(low, high) for _ in range(size)), tuple(sorted(ties)))


def random_trees(seed, count, sizes, low, high):
    source = random.Random(seed)
    return [random_tree(source, source.choice(sizes), low, high) for _ in range(count)]


def neighbours_by_ties(tree, place):
    return [one + other - place for one, other in tree.ties if place in (one, other)]


def product_by_ties(tree, one, other):
    """The product as [0.10] tells it, for rows of integers or of Fractions."""
    total = 0
    for low, high in tree.ties:
        total += one[low] * other[high] + one[high] * other[low]
    for place, number in enumerate(tree.numbers):
        total -= number * one[place] * other[place]
    return total


def press_by_ties(tree, row):
    return [sum(row[other] for other in neighbours_by_ties(tree, place)) - tree.numbers[place] * row[place]
            for place in range(tree.size)]


def pair(fraction):
    """The pair of a Fraction or an int."""
    return (fraction.numerator, fraction.denominator)
