"""Each example of the document, as it is written there."""

import unittest

from tametrees import errors
from tametrees.base import fractions
from tametrees.trees import trees
from tests import examples


def names_of(*modules):
    """All public names of some modules, and the errors."""
    names = {}
    for module in (errors,) + modules:
        names.update({name: value for name, value in vars(module).items() if not name.startswith("_")})
    return names


class Examples(unittest.TestCase):
    def test_fractions(self):
        examples.run_examples(self, examples.FRACTIONS, names_of(fractions))

    def test_trees(self):
        examples.run_examples(self, examples.TREES, names_of(trees))


if __name__ == "__main__":
    unittest.main()
