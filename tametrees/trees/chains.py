"""Chains of integers, their fractions, and the saw sums that their lines tell."""

from math import gcd
from tametrees.base.fractions import is_integer
from tametrees.base.kinds import is_whole_within
from tametrees.base.ratios import ratio, ratio_difference, ratio_product
from tametrees.errors import InvalidNumber, InvalidOperation, TooMany

MAX_CHAIN = 60
MAX_TOP = 10000

# A chain of 60 integers, a 1, and a chain beside it of 60 integers.
_MAX_JOINED = 121


def chain_numbers(n, q):
    """The chain of n / q."""
    _check_top_and_bottom(n, q)
    return _chain_of(n, q)


def chain_fraction(numbers):
    """The pair (n, q) of a chain."""
    _check_chain(numbers)
    return _fraction_of(numbers)


def turned_chain(numbers):
    """The chain from its last integer to its first one."""
    _check_chain(numbers)
    return numbers[::-1]


def beside_chain(numbers):
    """The chain of n / (n - q), for the chain of n / q."""
    _check_chain(numbers)
    n, q = _fraction_of(numbers)
    return _chain_of(n, n - q)


def joined_chain(numbers):
    """The chain, a 1, and the chain beside it, turned."""
    beside = beside_chain(numbers)
    return numbers + (1,) + beside[::-1]


def chain_down(numbers):
    """What is left if the first 1 is taken away, as long as there is one and there are at least two integers."""
    if not _are_integers_from(numbers, 0, _MAX_JOINED):
        raise InvalidOperation("a chain to be taken down is a tuple of 1 to 121 integers from 0 on")
    left = list(numbers)
    while len(left) > 1 and 1 in left:
        at = left.index(1)
        ahead = left[:at - 1] + [left[at - 1] - 1] if at > 0 else []
        behind = [left[at + 1] - 1] + left[at + 2:] if at + 1 < len(left) else []
        left = ahead + behind
    return tuple(left)


def saw_sum(q, n):
    """The saw sum s(q, n), a fraction."""
    if not is_integer(q):
        raise InvalidNumber(q)
    if not is_whole_within(n, 1, MAX_TOP):
        raise InvalidNumber(n)
    _check_apart(n, q)
    return _saw_sum_of(q, n)


def chain_share(n, q):
    """The share of the line of the chain of n / q, a fraction."""
    _check_top_and_bottom(n, q)
    return ratio_difference(ratio(2 * (n - 1), n), ratio_product((12, 1), _saw_sum_of(q, n)))


def _saw_sum_of(q, n):
    # No i / n and no q i / n is an integer here: each tooth is (2 r - n) / (2 n), r being what is left modulo n.
    teeth = [(2 * i - n) * (2 * (q * i % n) - n) for i in range(1, n)]
    return ratio(sum(teeth), 4 * n * n)


def _chain_of(n, q):
    found = chain_within(n, q, MAX_CHAIN)
    if found is None:
        raise TooMany(MAX_CHAIN)
    return found


def chain_within(n, q, most):
    """The chain of n / q, for integers of any length, or None if it has more than `most` integers."""
    found = []
    top, bottom = n, q
    while bottom != 0:
        if len(found) == most:
            return None
        number = -(-top // bottom)
        found.append(number)
        top, bottom = bottom, number * bottom - top
    return tuple(found)


def _fraction_of(numbers):
    top, bottom = 1, 0
    for number in reversed(list(numbers)):
        top, bottom = number * top - bottom, top
    return top, bottom


def _check_top_and_bottom(n, q):
    if not is_whole_within(n, 2, MAX_TOP):
        raise InvalidNumber(n)
    if not is_whole_within(q, 1, n - 1):
        raise InvalidNumber(q)
    _check_apart(n, q)


def _check_apart(n, q):
    if gcd(n, q) != 1:
        raise InvalidOperation("an integer above 1 divides both")


def _check_chain(value):
    if not _are_integers_from(value, 2, MAX_CHAIN):
        raise InvalidOperation("a chain is a tuple of 1 to 60 integers of at least 2")


def _are_integers_from(value, low, most):
    """Whether the value is a tuple of 1 to `most` integers of at least `low`."""
    if not isinstance(value, tuple) or not 1 <= len(value) <= most:
        return False
    return all([is_integer(part) and part >= low for part in value])
