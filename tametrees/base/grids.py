"""Rows and columns of integers of any length, and as many as there are. Nothing is checked here."""

from math import gcd
from tametrees.base.ratios import ratio


def rank_and_minor(rows):
    """The rank r, and the determinant, other than 0, of some r rows and r columns; 1 for the rank 0.

    If these are all rows and columns, the determinant has the right sign.
    Each division leaves no rest: after k steps all entries left are determinants of k + 1 rows and columns.
    """
    left = [list(entries) for entries in rows]
    last, sign = 1, 1
    for at in range(min(len(rows), len(rows[0]))):
        spot = _first_spot(left, at)
        if spot is None:
            return at, sign * last
        row, column = spot
        left = [_exchanged(entries, at, column) for entries in _exchanged(left, at, row)]
        sign = sign if (row == at) == (column == at) else -sign
        top = left[at]
        left = [_lessened(entries, top, at, last) if place > at else entries for place, entries in enumerate(left)]
        last = top[at]
    return min(len(rows), len(rows[0])), sign * last


def _first_spot(rows, at):
    """The row and the column, both from `at` on, of an entry other than 0, or None."""
    for column in range(at, len(rows[0])):
        for row in range(at, len(rows)):
            if rows[row][column] != 0:
                return row, column
    return None


def _exchanged(values, one, other):
    """The list of the values, two of them in one another's place."""
    changed = list(values)
    changed[one], changed[other] = values[other], values[one]
    return changed


def _lessened(row, top, at, last):
    """A row with 0 at the column `at`, by a multiple of the row `top`, as rank_and_minor reckons it."""
    here, pivot = row[at], top[at]
    return [(pivot * entry - here * above) // last for entry, above in zip(row, top)]


def determinant_of_rows(rows):
    """The determinant of as many rows as columns."""
    rank, minor = rank_and_minor(rows)
    return minor if rank == len(rows) else 0


def _unit_row(place, size):
    return [1 if place == at else 0 for at in range(size)]


def undone_rows(rows):
    """The undone table, as tuples of pairs, of as many rows as columns, or None if the determinant is 0."""
    size = len(rows)
    wide = [list(row) + _unit_row(place, size) for place, row in enumerate(rows)]
    last = 1
    for at in range(size):
        spots = [row for row in range(at, size) if wide[row][at] != 0]
        if len(spots) == 0:
            return None
        wide = _exchanged(wide, at, spots[0])
        top = wide[at]
        wide = [row if place == at else _lessened(row, top, at, last) for place, row in enumerate(wide)]
        last = top[at]
    # Now each row has one and the same pivot on the diagonal: the last one.
    return tuple([tuple([ratio(entry, last) for entry in row[size:]]) for row in wide])


def factors_of_rows(rows):
    """The tuple of the factors.

    The last factor divides each determinant of as many rows and columns as the rank tells, if it is not 0.
    So the steps are made modulo such a one, and the integers stay short.
    """
    rank, minor = rank_and_minor(rows)
    if rank == 0:
        return ()
    modulus = abs(minor)
    left = [[entry % modulus for entry in row] for row in rows]
    found = []
    for at in range(min(len(rows), len(rows[0]))):
        left = _with_clear_cross(left, at, modulus)
        found.append(gcd(left[at][at], modulus))
    return tuple(_divisor_chain(found)[:rank])


def _with_clear_cross(rows, at, modulus):
    """The rows, or the columns as rows, after steps that leave 0 below and right of (at, at)."""
    left = _with_clear_column(rows, at, modulus)
    while any([entry != 0 for entry in left[at][at + 1:]]):
        turned = [[row[column] for row in left] for column in range(len(left[0]))]
        left = _with_clear_column(turned, at, modulus)
    return left


def _with_clear_column(rows, at, modulus):
    """The rows after steps that leave 0 below (at, at), where a common divisor of the column comes to stand."""
    left = list(rows)
    for row in range(at + 1, len(left)):
        here, below = left[at][at], left[row][at]
        if here != 0 and below % here == 0:
            left[row] = _mixed(left[row], left[at], (1, -(below // here)), modulus)
        elif below != 0:
            shared, some, more = _shared_divisor(here, below)
            top = _mixed(left[at], left[row], (some, more), modulus)
            left[row] = _mixed(left[row], left[at], (here // shared, -(below // shared)), modulus)
            left[at] = top
    return left


def _mixed(row, other, shares, modulus):
    """The sum of two rows, each multiplied by its share."""
    share, more = shares
    return [(share * entry + more * beside) % modulus for entry, beside in zip(row, other)]


def _shared_divisor(one, other):
    """The greatest common divisor g of two integers from 0 on, and s and t with g = s * one + t * other."""
    some, more = (1, 0), (0, 1)
    while other != 0:
        times = one // other
        one, other = other, one - times * other
        some, more = more, (some[0] - times * more[0], some[1] - times * more[1])
    return one, some[0], some[1]


def _divisor_chain(values):
    """As many integers above 0, each one a divisor of the next one, for the same diagonal table."""
    chain = list(values)
    for at in range(len(chain)):
        for behind in range(at + 1, len(chain)):
            shared = gcd(chain[at], chain[behind])
            chain[at], chain[behind] = shared, chain[at] * (chain[behind] // shared)
    return chain
