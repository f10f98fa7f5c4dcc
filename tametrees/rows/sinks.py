"""Sinks: rows from 0 on, not all 0, of a worth of at most 0. Nothing is checked here."""

from tametrees.rows.climbs import climb_from


def row_of_first_jump(numbers, near, start, ceiling=None):
    """The row behind the first step from e(start) that jumps, or None if none does."""
    row, level = climb_from(numbers, near, start, 1, ceiling)
    return None if level >= 1 else row


def sink_below(numbers, near, ceiling):
    """A sink at or below a row from 0 on, or None if there is none."""
    for place in range(len(numbers)):
        if ceiling[place] > 0:
            found = row_of_first_jump(numbers, near, place, ceiling)
            if found is not None:
                return found
    return None


def least_sink_below(numbers, near, sink):
    """A least sink at or below a sink.

    If no sink at or below it has a lesser entry at some place, this stays so when other entries get less.
    """
    found = sink
    for place in range(len(numbers)):
        lower = sink
        while lower is not None and found[place] > 0:
            lower = sink_below(numbers, near, one_less(found, place))
            found = found if lower is None else lower
    return found


def has_lower_sink(numbers, near, row):
    """Whether a sink other than the row is at or below it."""
    lowered = [one_less(row, place) for place in range(len(numbers)) if row[place] > 0]
    return any([sink_below(numbers, near, lower) is not None for lower in lowered])


def one_less(row, place):
    """The row with 1 less at a place."""
    return row[:place] + (row[place] - 1,) + row[place + 1:]
