"""Fractions as pairs (top, bottom) of integers of any length. Nothing is checked here."""

from math import gcd, lcm
from tametrees.base.kinds import is_whole


def ratio(top, bottom):
    """The pair in lowest terms of two integers, the second one not 0."""
    shared = gcd(top, bottom)
    if bottom < 0:
        shared = -shared
    return (top // shared, bottom // shared)


def is_ratio(value):
    """Whether the value is a pair in lowest terms, with integers of any length."""
    if not isinstance(value, tuple) or len(value) != 2:
        return False
    if not is_whole(value[0]) or not is_whole(value[1]):
        return False
    return value[1] > 0 and gcd(value[0], value[1]) == 1


def is_ratio_row(value, size):
    """Whether the value is a tuple of `size` integers or pairs in lowest terms, of any length."""
    if not isinstance(value, tuple) or len(value) != size:
        return False
    return all([is_whole(part) or is_ratio(part) for part in value])


def pair_of(number):
    """The pair of an integer or of a pair."""
    if isinstance(number, tuple):
        return number
    return (number, 1)


def ratio_sum(one, other):
    """The sum of two pairs."""
    return ratio(one[0] * other[1] + other[0] * one[1], one[1] * other[1])


def ratio_difference(one, other):
    """The first pair less the second one."""
    return ratio(one[0] * other[1] - other[0] * one[1], one[1] * other[1])


def ratio_product(one, other):
    """The product of two pairs."""
    return ratio(one[0] * other[0], one[1] * other[1])


def ratio_quotient(one, other):
    """The first pair divided by the second one, which is not 0."""
    return ratio(one[0] * other[1], one[1] * other[0])


def with_common_bottom(row):
    """The tuple of the tops of a row of numbers over one common bottom, and this bottom."""
    pairs = [pair_of(number) for number in row]
    shared = 1
    for pair in pairs:
        shared = lcm(shared, pair[1])
    return tuple([top * (shared // bottom) for top, bottom in pairs]), shared
