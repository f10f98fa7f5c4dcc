"""Texts that tell trees, rows, fractions and classes."""

from tametrees.base.fractions import is_integer
from tametrees.base.kinds import is_whole
from tametrees.base.ratios import is_ratio, is_ratio_row
from tametrees.errors import InvalidOperation, ParseError, TooMany, UnknownName
from tametrees.text.parts import BAR, MOST_DIGITS, fraction_of_part, natural_of_part, number_of_part
from tametrees.text.parts import spot_in_list, spot_in_ties
from tametrees.trees.shapes import are_ties
from tametrees.trees.trees import Tree, made_tree

MAX_TEXT = 20000
MAX_ENTRIES = 40
KINDS = ("tree", "row", "fraction", "class")


def write_value(value, *, kind):
    """The text of a value of a kind."""
    if kind not in KINDS:
        raise UnknownName(kind)
    if not _is_of_kind(value, kind):
        raise InvalidOperation("the value is not of this kind")
    entries = _entries_of(value, kind)
    if not all([is_integer(part) for entry in entries for part in _parts_of_entry(entry)]):
        raise TooMany(MOST_DIGITS)
    told = [kind] + [_written(entry) for entry in entries]
    if kind == "tree":
        told.extend([f"{BAR} {one} {other}" for one, other in value.ties])
    return " ".join(told)


def _is_of_kind(value, kind):
    if kind == "tree":
        return isinstance(value, Tree)
    if kind == "fraction":
        return is_ratio(value)
    if not isinstance(value, tuple) or not 1 <= len(value) <= MAX_ENTRIES:
        return False
    if kind == "row":
        return is_ratio_row(value, len(value))
    return all([is_whole(part) and part >= 0 for part in value])


def _entries_of(value, kind):
    """The integers and fractions that are told behind the kind."""
    if kind == "tree":
        return value.numbers
    return (value,) if kind == "fraction" else value


def _parts_of_entry(entry):
    return entry if isinstance(entry, tuple) else (entry,)


def _written(entry):
    return "/".join([str(part) for part in _parts_of_entry(entry)])


def kind_of_text(text):
    """The kind of a text."""
    spot, kind, _ = _parsed(text)
    if spot is not None:
        raise ParseError(spot)
    return kind


def read_value(text):
    """The value that a text tells."""
    spot, _, value = _parsed(text)
    if spot is not None:
        raise ParseError(spot)
    return value


def is_text(value):
    """Whether the value is a text."""
    spot, _, _ = _parsed(value)
    return spot is None


def _parsed(text):
    """The spot, the kind and the value of a text; the spot is None for a text, the others are None for other values."""
    if not isinstance(text, str) or len(text) > MAX_TEXT:
        return 0, None, None
    parts = text.split(" ")
    kind = parts[0]
    if kind not in KINDS:
        return 0, None, None
    if kind == "tree":
        spot, value = _parsed_tree(parts)
    elif kind == "fraction":
        spot, value = _parsed_list([fraction_of_part(part) for part in parts[1:]], 1)
        value = value[0] if spot is None else None
    elif kind == "row":
        spot, value = _parsed_list([number_of_part(part) for part in parts[1:]], MAX_ENTRIES)
    else:
        spot, value = _parsed_list([natural_of_part(part) for part in parts[1:]], MAX_ENTRIES)
    return spot, kind if spot is None else None, value


def _parsed_list(values, most):
    spot = spot_in_list(values, most)
    return spot, tuple(values) if spot is None else None


def _parsed_tree(parts):
    first = parts.index(BAR) if BAR in parts else len(parts)
    numbers = [natural_of_part(part) for part in parts[1:first]]
    spot = spot_in_list(numbers, MAX_ENTRIES)
    if spot is None:
        spot = spot_in_ties(parts, first, len(numbers))
    if spot is not None:
        return spot, None
    places = [natural_of_part(part) for part in parts[first:]]
    ties = tuple([(places[at], places[at + 1]) for at in range(1, len(places), 3)])
    if not are_ties(ties, len(numbers)):
        return len(parts), None
    return None, made_tree(tuple(numbers), ties)
