"""Each example of the document, as it is written there."""

import unittest

from tametrees import errors
from tametrees.base import fractions, tables
from tametrees.trees import definite, duals, groups, trees
from tests import examples


def names_of(*modules):
    """All public names of some modules, and the errors."""
    names = {}
    for module in (errors,) + modules:
        names.update({name: value for name, value in vars(module).items() if not name.startswith("_")})
    return names


class Examples(unittest.TestCase):
    def test_fractions(self):
        examples.run_examples(self, examples.FRACTIONS, names_of(fractions))

    def test_tables(self):
        examples.run_examples(self, examples.TABLES, names_of(tables))

    def test_trees(self):
        examples.run_examples(self, examples.TREES, names_of(trees))

    def test_definite_trees(self):
        examples.run_examples(self, examples.DEFINITE, names_of(trees, definite))

    def test_dual_rows(self):
        examples.run_examples(self, examples.DUALS, names_of(trees, duals))

    def test_classes(self):
        examples.run_examples(self, examples.GROUPS, names_of(trees, groups))


if __name__ == "__main__":
    unittest.main()
