"""Each example of the document, as it is written there."""

import unittest

from tametrees import errors
from tametrees.base import fractions, tables
from tametrees.low import pieces
from tametrees.odd import heights
from tametrees.rows import depth, steps, tame, twos
from tametrees.trees import chains, definite, duals, groups, kin, trees
from tests import examples


def names_of(*modules):
    """All public names of some modules, and the errors."""
    names = {}
    for module in (errors,) + modules:
        names.update({name: value for name, value in vars(module).items() if not name.startswith("_")})
    return names


class Examples(unittest.TestCase):
    def test_fractions(self):
        examples.run_examples(self, examples.FRACTIONS, names_of(fractions))

    def test_tables(self):
        examples.run_examples(self, examples.TABLES, names_of(tables))

    def test_trees(self):
        examples.run_examples(self, examples.TREES, names_of(trees))

    def test_definite_trees(self):
        examples.run_examples(self, examples.DEFINITE, names_of(trees, definite))

    def test_dual_rows(self):
        examples.run_examples(self, examples.DUALS, names_of(trees, duals))

    def test_classes(self):
        examples.run_examples(self, examples.GROUPS, names_of(trees, groups))

    def test_taken_down_and_put_up(self):
        examples.run_examples(self, examples.KIN, names_of(kin))

    def test_chains(self):
        examples.run_examples(self, examples.CHAINS, names_of(chains))

    def test_steps_up(self):
        examples.run_examples(self, examples.STEPS, names_of(steps))

    def test_tame_trees(self):
        examples.run_examples(self, examples.TAME, names_of(trees, tame))

    def test_trees_with_all_numbers_2(self):
        examples.run_examples(self, examples.TWOS, names_of(trees, twos))

    def test_depth(self):
        examples.run_examples(self, examples.DEPTH, names_of(trees, depth))

    def test_heights(self):
        examples.run_examples(self, examples.HEIGHTS, names_of(heights))

    def test_pieces_of_low_rows(self):
        examples.run_examples(self, examples.PIECES, names_of(trees, pieces))


if __name__ == "__main__":
    unittest.main()
