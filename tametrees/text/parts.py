"""The parts of texts: integers and fractions as they are written, and the parts that cannot stand at their places.

A *spot* is the index of the first part that cannot stand at its place, or the number of the parts if parts are
missing; None if there is nothing wrong.
"""

from tametrees.base.kinds import is_index
from tametrees.base.ratios import is_ratio

BAR = "|"
MOST_DIGITS = 60
_DIGITS = "0123456789"


def whole_of_part(part):
    """The integer that a part tells, or None if it is no integer part."""
    digits = part[1:] if part.startswith("-") else part
    if not 1 <= len(digits) <= MOST_DIGITS or not all([digit in _DIGITS for digit in digits]):
        return None
    if digits.startswith("0") and part != "0":
        return None
    return int(part)


def fraction_of_part(part):
    """The fraction that a part tells, or None if it is no fraction part."""
    sides = part.split("/")
    if len(sides) != 2:
        return None
    pair = (whole_of_part(sides[0]), whole_of_part(sides[1]))
    return pair if is_ratio(pair) else None


def natural_of_part(part):
    """The integer from 0 on that a part tells, or None."""
    found = whole_of_part(part)
    return found if found is not None and found >= 0 else None


def number_of_part(part):
    """The integer or the fraction that a part tells, or None."""
    found = whole_of_part(part)
    return fraction_of_part(part) if found is None else found


def spot_in_list(values, most):
    """The spot in a text of a kind and of 1 to `most` values; None stands among these for a wrong part."""
    if len(values) == 0:
        return 1
    wrong = [at for at, value in enumerate(values, start=1) if value is None or at > most]
    return wrong[0] if len(wrong) > 0 else None


def spot_in_ties(parts, first, size):
    """The spot in the ties of a tree of `size` places, which are told from the part with the index `first` on."""
    for at in range(first, len(parts)):
        turn = (at - first) % 3
        place = natural_of_part(parts[at])
        stands = parts[at] == BAR if turn == 0 else is_index(place, size)
        if not stands or turn == 2 and place <= natural_of_part(parts[at - 1]):
            return at
    return None if (len(parts) - first) % 3 == 0 else len(parts)
