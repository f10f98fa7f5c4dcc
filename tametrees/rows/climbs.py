"""Steps up: 1 is added at places whose press is above a bound. Nothing is checked here."""

from tametrees.trees.shapes import presses_of, unit_row


def climb_to_end(numbers, near, presses, most):
    """The list of the places of steps until no press is above 0, or None if there are more than `most` steps.

    `presses` are integers; None for `most` stands for no bound.
    """
    left = list(presses)
    found = []
    waiting = list(range(len(numbers)))
    while len(waiting) > 0:
        place = waiting.pop()
        if left[place] > 0:
            # So many steps at this one place bring its press down to 0 or below.
            many = -(-left[place] // numbers[place])
            if most is not None and len(found) + many > most:
                return None
            found.extend([place] * many)
            left[place] -= many * numbers[place]
            for other in near[place]:
                left[other] += many
                waiting.append(other)
    return found


def row_of_steps(size, places):
    """The row that has at each place how often it stands among some places."""
    row = [0] * size
    for place in places:
        row[place] += 1
    return tuple(row)


def climb_from(numbers, near, start, floor, ceiling=None):
    """The row that steps from e(start) come to, and its worth; they stop where the worth gets below `floor`.

    With a ceiling, a row, no entry gets above that of the ceiling.
    """
    row = list(unit_row(start, len(numbers)))
    left = list(presses_of(numbers, near, row))
    level = 1
    waiting = list(near[start])
    while len(waiting) > 0 and level >= floor:
        place = waiting.pop()
        if left[place] > 0 and (ceiling is None or row[place] < ceiling[place]):
            level -= left[place] - 1
            row[place] += 1
            left[place] -= numbers[place]
            for other in near[place]:
                left[other] += 1
            waiting.append(place)
            waiting.extend(near[place])
    return tuple(row), level
