"""Fractions: pairs (top, bottom) of integers in lowest terms, the bottom above 0."""

from tametrees.base.kinds import is_whole
from tametrees.base.ratios import is_ratio, pair_of, ratio
from tametrees.base.ratios import ratio_difference, ratio_product, ratio_quotient, ratio_sum
from tametrees.errors import InvalidFraction, InvalidNumber, InvalidOperation

# The least integer above 0 that has more than sixty digits.
_TOO_LONG = 10 ** 60


def is_integer(value):
    """Whether the value is an integer of at most sixty digits."""
    return is_whole(value) and -_TOO_LONG < value < _TOO_LONG


def is_fraction(value):
    """Whether the value is a fraction of two integers of at most sixty digits."""
    return is_ratio(value) and is_integer(value[0]) and is_integer(value[1])


def is_number(value):
    """Whether the value is an integer of at most sixty digits, or a fraction of two of them."""
    return is_integer(value) or is_fraction(value)


def lowest(top, bottom):
    """The fraction that two integers make."""
    if not is_integer(top):
        raise InvalidNumber(top)
    if not is_integer(bottom) or bottom == 0:
        raise InvalidNumber(bottom)
    return ratio(top, bottom)


def plus(one, other):
    """The sum of two numbers, a fraction."""
    return ratio_sum(_pair(one), _pair(other))


def minus(one, other):
    """The first number less the second one, a fraction."""
    return ratio_difference(_pair(one), _pair(other))


def times(one, other):
    """The product of two numbers, a fraction."""
    return ratio_product(_pair(one), _pair(other))


def over(one, other):
    """The first number divided by the second one, a fraction."""
    top, bottom = _pair(one), _pair(other)
    if bottom[0] == 0:
        raise InvalidOperation("a number is not divided by 0")
    return ratio_quotient(top, bottom)


def compare(one, other):
    """-1, 0 or 1: whether the first number is below, equal to or above the second one."""
    top, _ = ratio_difference(_pair(one), _pair(other))
    if top == 0:
        return 0
    return 1 if top > 0 else -1


def floor_of(number):
    """The greatest integer that is not above the number."""
    top, bottom = _pair(number)
    return top // bottom


def rest_of(number):
    """The number less the greatest integer that is not above it, a fraction."""
    top, bottom = _pair(number)
    return ratio(top % bottom, bottom)


def _pair(value):
    """The pair of a number that was passed."""
    if not is_number(value):
        raise InvalidFraction("a number is an integer, or a pair of integers in lowest terms")
    return pair_of(value)
