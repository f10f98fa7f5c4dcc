"""Stars: a middle and legs that are told by pairs of integers, and what their falls count."""

from math import gcd
from tametrees.base.kinds import is_whole_within
from tametrees.errors import InvalidNumber, InvalidOperation, Refused, TooMany
from tametrees.trees.chains import chain_within
from tametrees.trees.kin import MAX_PLACES
from tametrees.trees.shapes import star_parts
from tametrees.trees.trees import MAX_NUMBER, made_tree

MAX_LEGS = 8
MOST_TOP = 1000
MOST_TAU = 1000

# The integers of a triple are from 2 to this one.
_MOST_OF_TRIPLE = 60


def star_tree(number, pairs):
    """The star of a number and of pairs."""
    _check_star(number, pairs)
    legs = [chain_within(top, bottom, MAX_PLACES) for top, bottom in pairs]
    if None in legs or 1 + sum([len(leg) for leg in legs]) > MAX_PLACES:
        raise TooMany(MAX_PLACES)
    numbers, ties = star_parts(number, legs)
    return made_tree(numbers, ties)


def is_star_definite(number, pairs):
    """Whether the star is definite."""
    _check_star(number, pairs)
    return _determinant_of(number, pairs) > 0


def star_tau(number, pairs, many):
    """The tuple of tau(0), tau(1), .., tau(many), as the rises tell them."""
    _check_star(number, pairs)
    if not is_whole_within(many, 0, MOST_TAU):
        raise InvalidNumber(many)
    found = [0]
    for lift in range(many):
        found.append(found[-1] + _rise_at(number, pairs, lift))
    return tuple(found)


def star_count(number, pairs):
    """The sum of all falls: the count of the class 0 of a definite star."""
    _check_star(number, pairs)
    whole = _determinant_of(number, pairs)
    if whole <= 0:
        raise Refused(("bar",))
    # From k / e on, for k legs, no rise is below 0; e is the determinant, divided by all tops.
    if len(pairs) * _product_of_tops(pairs) > MOST_TAU * whole:
        raise TooMany(MOST_TAU)
    return sum([max(0, -_rise_at(number, pairs, lift)) for lift in range(MOST_TAU + 1)])


def triple_star(p, q, r):
    """The pair (number, pairs) of the star with legs of p, q and r, and the determinant 1."""
    _check_triple(p, q, r)
    pairs = ((p, _share_of_leg(p, q * r)), (q, _share_of_leg(q, p * r)), (r, _share_of_leg(r, p * q)))
    return (1 - _determinant_of(0, pairs)) // (p * q * r), pairs


def triple_count(p, q, r):
    """The number of the triples (i, j, k) of integers from 1 on with i / p + j / q + k / r at most 1."""
    _check_triple(p, q, r)
    lefts = [p * q * r - i * q * r - j * p * r for i in range(1, p) for j in range(1, q)]
    return sum([left // (p * q) for left in lefts if left > 0])


def _share_of_leg(top, others):
    """The integer w from 1 to below `top` for which w times the others, plus 1, is a multiple of `top`."""
    fits = [share for share in range(1, top) if (share * others + 1) % top == 0]
    return fits[0]


def _product_of_tops(pairs):
    total = 1
    for top, _ in pairs:
        total = total * top
    return total


def _determinant_of(number, pairs):
    """The determinant of the star: the product of all tops, times the number less the sum of all w / a."""
    tops = _product_of_tops(pairs)
    return number * tops - sum([tops // top * bottom for top, bottom in pairs])


def _rise_at(number, pairs, lift):
    """How much tau grows from `lift` to the next integer."""
    return 1 + number * lift - sum([-(-lift * bottom // top) for top, bottom in pairs])


def _check_star(number, pairs):
    if not is_whole_within(number, 0, MAX_NUMBER):
        raise InvalidNumber(number)
    if not isinstance(pairs, tuple) or len(pairs) > MAX_LEGS or not all([_is_leg(part) for part in pairs]):
        raise InvalidOperation("the pairs are a tuple of at most eight pairs (a, w) without a common divisor above 1")


def _is_leg(value):
    if not isinstance(value, tuple) or len(value) != 2 or not is_whole_within(value[0], 2, MOST_TOP):
        return False
    return is_whole_within(value[1], 1, value[0] - 1) and gcd(value[0], value[1]) == 1


def _check_triple(p, q, r):
    for value in (p, q, r):
        if not is_whole_within(value, 2, _MOST_OF_TRIPLE):
            raise InvalidNumber(value)
    if gcd(p, q) != 1 or gcd(p, r) != 1 or gcd(q, r) != 1:
        raise InvalidOperation("two of the integers have a common divisor above 1")
