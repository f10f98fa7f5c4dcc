"""Each example of the document, as it is written there."""

import unittest

from tametrees import errors
from tametrees.base import fractions, tables
from tametrees.desk import desk
from tametrees.low import boxes, near, pieces, stars
from tametrees.number import number
from tametrees.odd import halves, heights
from tametrees.rows import depth, steps, tame, twos
from tametrees.series import series
from tametrees.text import texts
from tametrees.trees import chains, definite, duals, groups, kin, trees
from tests import examples


def names_of(*modules):
    """All public names of some modules, and the errors."""
    names = {}
    for module in (errors,) + modules:
        names.update({name: value for name, value in vars(module).items() if not name.startswith("_")})
    return names


class Examples(unittest.TestCase):
    def test_fractions(self):
        examples.run_examples(self, examples.FRACTIONS, names_of(fractions))

    def test_tables(self):
        examples.run_examples(self, examples.TABLES, names_of(tables))

    def test_trees(self):
        examples.run_examples(self, examples.TREES, names_of(trees))

    def test_definite_trees(self):
        examples.run_examples(self, examples.DEFINITE, names_of(trees, definite))

    def test_dual_rows(self):
        examples.run_examples(self, examples.DUALS, names_of(trees, duals))

    def test_classes(self):
        examples.run_examples(self, examples.GROUPS, names_of(trees, groups))

    def test_taken_down_and_put_up(self):
        examples.run_examples(self, examples.KIN, names_of(kin))

    def test_chains(self):
        examples.run_examples(self, examples.CHAINS, names_of(chains))

    def test_steps_up(self):
        examples.run_examples(self, examples.STEPS, names_of(steps))

    def test_tame_trees(self):
        examples.run_examples(self, examples.TAME, names_of(trees, tame))

    def test_trees_with_all_numbers_2(self):
        examples.run_examples(self, examples.TWOS, names_of(trees, twos))

    def test_depth(self):
        examples.run_examples(self, examples.DEPTH, names_of(trees, depth))

    def test_heights(self):
        examples.run_examples(self, examples.HEIGHTS, names_of(heights))

    def test_pieces_of_low_rows(self):
        examples.run_examples(self, examples.PIECES, names_of(trees, pieces))

    def test_trees_that_are_tame_but_for_one_place(self):
        examples.run_examples(self, examples.NEAR, names_of(trees, near))

    def test_stars(self):
        examples.run_examples(self, examples.STARS, names_of(stars))

    def test_boxes_and_counts(self):
        examples.run_examples(self, examples.BOXES, names_of(boxes))

    def test_the_series(self):
        examples.run_examples(self, examples.SERIES, names_of(series))

    def test_one_number(self):
        examples.run_examples(self, examples.NUMBER, names_of(number))

    def test_wu_lots(self):
        examples.run_examples(self, examples.HALVES, names_of(trees, halves))

    def test_a_desk(self):
        examples.run_examples(self, examples.DESK, names_of(trees, desk))

    def test_texts(self):
        examples.run_examples(self, examples.TEXTS, names_of(texts))


if __name__ == "__main__":
    unittest.main()
