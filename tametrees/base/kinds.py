"""What kind of value something is. None of these functions raises an error, whatever it gets."""


def is_whole(value):
    """Whether the value is an integer, of any length. True and False are none."""
    return isinstance(value, int) and not isinstance(value, bool)


def is_whole_within(value, low, high):
    """Whether the value is an integer from `low` to `high`."""
    return is_whole(value) and low <= value <= high


def is_index(value, count):
    """Whether the value is an integer from 0 to below `count`."""
    return is_whole(value) and 0 <= value < count


def is_ascending(values):
    """Whether each of some comparable values is below the next one."""
    return all([one < other for one, other in zip(values, values[1:])])


def are_indices(value, count):
    """Whether the value is an ascending tuple, perhaps empty, of integers from 0 to below `count`."""
    if not isinstance(value, tuple) or not all([is_index(part, count) for part in value]):
        return False
    return is_ascending(value)


def is_whole_row(value, size):
    """Whether the value is a tuple of `size` integers, of any length."""
    return isinstance(value, tuple) and len(value) == size and all([is_whole(part) for part in value])


def is_order(value, size):
    """Whether the value is a tuple that has each integer from 0 to below `size` just once."""
    if not isinstance(value, tuple) or not all([is_index(part, size) for part in value]):
        return False
    return sorted(value) == list(range(size))
