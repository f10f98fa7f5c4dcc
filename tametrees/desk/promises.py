"""Names, and promises about the trees that are kept under them. Nothing is checked here."""

from tametrees.base.fractions import is_integer
from tametrees.rows.tame import is_tame
from tametrees.trees.definite import is_definite, tree_determinant
from tametrees.trees.kin import are_kin

_LETTERS = "abcdefghijklmnopqrstuvwxyz"
_LONGEST = 8

DEFINITE = "definite"
TAME = "tame"
DETERMINANT = "determinant"
KIN = "kin"


def is_name(value):
    """Whether the value is a string of one to eight characters from a to z."""
    if not isinstance(value, str) or not 1 <= len(value) <= _LONGEST:
        return False
    return all([letter in _LETTERS for letter in value])


def is_promise(value):
    """Whether the value is a promise."""
    if not isinstance(value, tuple) or len(value) not in (2, 3) or not is_name(value[1]):
        return False
    if len(value) == 2:
        return value[0] in (DEFINITE, TAME)
    if value[0] == DETERMINANT:
        return is_integer(value[2])
    return value[0] == KIN and is_name(value[2])


def names_in(told):
    """The names in a promise, in their order."""
    return told[1:] if told[0] == KIN else (told[1],)


def is_kept(told, trees):
    """Whether a promise is true of the trees that a dict has under names."""
    if any([name not in trees for name in names_in(told)]):
        return False
    word, tree = told[0], trees[told[1]]
    if word == DETERMINANT:
        return tree_determinant(tree) == told[2]
    # For trees that are not definite the other functions raise an error.
    if not is_definite(tree):
        return False
    if word == KIN:
        return is_definite(trees[told[2]]) and are_kin(tree, trees[told[2]])
    return word == DEFINITE or is_tame(tree)
