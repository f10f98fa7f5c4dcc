"""Rows of 0 and 1 with told sums modulo 2. Nothing is checked here."""


def parity_rows(table, sums, most):
    """All rows of 0 and 1 whose products with the rows of a table are the sums, modulo 2; None if more than `most`.

    The table has 0 and 1 alone, and there is such a row.
    """
    size = len(table[0])
    reduced = {}
    for row, total in zip(table, sums):
        reduced = _with_equation(reduced, list(row) + [total])
    free = [at for at in range(size) if at not in reduced]
    found = [_row_with(reduced, size, {})]
    for column in free:
        if 2 * len(found) > most:
            return None
        added = _row_with(_without_sums(reduced), size, {column: 1})
        found = found + [_sum_of(begun, added) for begun in found]
    return found


def _with_equation(reduced, equation):
    """Some equations with one more: each belongs to a column in which the others have 0.

    An equation is a list of 0 and 1, the sum at its end.
    """
    left = equation
    for column in reduced:
        if left[column] == 1:
            left = _sum_of(left, reduced[column])
    columns = [at for at, entry in enumerate(left[:-1]) if entry == 1]
    if len(columns) == 0:
        return reduced
    spot = columns[0]
    longer = {at: _sum_of(reduced[at], left) if reduced[at][spot] == 1 else reduced[at] for at in reduced}
    longer[spot] = left
    return longer


def _sum_of(one, other):
    return [(entry + more) % 2 for entry, more in zip(one, other)]


def _without_sums(reduced):
    return {column: reduced[column][:-1] + [0] for column in reduced}


def _row_with(reduced, size, told):
    """The row that keeps all equations, and has 1 at the told free columns and 0 at the other free ones."""
    row = [told.get(at, 0) for at in range(size)]
    for column in reduced:
        equation = reduced[column]
        row[column] = (equation[-1] + sum([equation[spot] for spot in told])) % 2
    return row
