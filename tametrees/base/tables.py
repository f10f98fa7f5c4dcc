"""Tables: tuples of 1 to 20 rows of equally many integers, from 1 to 20."""

from tametrees.base.fractions import is_integer
from tametrees.base.grids import determinant_of_rows, factors_of_rows, rank_and_minor, undone_rows
from tametrees.errors import InvalidOperation, InvalidTable, Refused

MAX_SIDE = 20


def is_table(value):
    """Whether the value is a table, with integers of at most sixty digits."""
    if not isinstance(value, tuple) or not 1 <= len(value) <= MAX_SIDE:
        return False
    if not all([_is_table_row(row) for row in value]):
        return False
    return all([len(row) == len(value[0]) for row in value])


def _is_table_row(value):
    if not isinstance(value, tuple) or not 1 <= len(value) <= MAX_SIDE:
        return False
    return all([is_integer(entry) for entry in value])


def rank(table):
    """The greatest number of rows none of which is a sum of multiples of the others."""
    _check_table(table)
    found, _ = rank_and_minor(table)
    return found


def factors(table):
    """The tuple of the factors, each one a divisor of the next one; as many as the rank tells."""
    _check_table(table)
    return factors_of_rows(table)


def determinant(table):
    """The determinant of a square table, an integer."""
    _check_square(table)
    return determinant_of_rows(table)


def undone(table):
    """The table of fractions whose products with a square table, in both sequences, are the unit table."""
    _check_square(table)
    found = undone_rows(table)
    if found is None:
        raise Refused(("singular",))
    return found


def _check_table(value):
    if not is_table(value):
        raise InvalidTable("a table is a tuple of 1 to 20 tuples of equally many integers, from 1 to 20")


def _check_square(value):
    _check_table(value)
    if len(value) != len(value[0]):
        raise InvalidOperation("the table has more or fewer rows than columns")
