"""Stage 21: [21.1] to [21.6], with [0.4] and [0.5], for tametrees.text.texts."""

import random
import unittest

from tametrees.errors import InvalidOperation, ParseError, TooMany, UnknownName
from tametrees.low.stars import star_tree
from tametrees.text.texts import KINDS, MAX_ENTRIES, MAX_TEXT, is_text, kind_of_text, read_value, write_value
from tametrees.trees.trees import Tree, are_alike, made_tree
from tests.helpers import BIG, LONG, NO_VALUE, TOO_BIG, check_error, check_same, made_line, made_star, odd_values, random_trees

CHAIN, LINE = Tree.line((2, 1, 3)), Tree.line((2, 2))
LONGEST = "9" * 60


def random_values(source):
    """A value of each kind, as pairs (kind, value)."""
    entry = lambda: source.choice((0, 1, -1, 7, BIG, -BIG, (1, 2), (-3, 7), (0, 1), (5, 1), (BIG, BIG - 1), (-BIG, 2)))
    return [
        ("tree", random_trees(source.random(), 1, range(1, 41), 0, 99)[0]),
        ("row", tuple(entry() for _ in range(source.randint(1, 40)))),
        ("fraction", source.choice(((0, 1), (1, 2), (-3, 1), (BIG, 2), (-1, BIG)))),
        ("class", tuple(source.choice((0, 1, 2, 399, BIG)) for _ in range(source.randint(1, 40)))),
    ]


class TextCase(unittest.TestCase):
    def no_text(self, text, spot):
        with self.subTest(text if isinstance(text, str) and len(text) < 200 else type(text)):
            check_error(self, ParseError, spot, read_value, text)
            check_error(self, ParseError, spot, kind_of_text, text)
            check_same(self, is_text(text), False)

    def text_of(self, text, kind, value):
        with self.subTest(text if len(text) < 200 else len(text)):
            check_same(self, read_value(text), value)
            check_same(self, kind_of_text(text), kind)
            check_same(self, is_text(text), True)
            check_same(self, write_value(value, kind=kind), text)


class Texts(TextCase):
    def test_the_bounds(self):
        check_same(self, (MAX_TEXT, MAX_ENTRIES, KINDS), (20000, 40, ("tree", "row", "fraction", "class")))

    def test_21_3_texts_of_each_kind(self):
        self.text_of("tree 2 1 3 | 0 1 | 1 2", "tree", CHAIN)
        self.text_of("tree 5", "tree", Tree((5,), ()))
        self.text_of("tree 0 0 | 0 1", "tree", Tree((0, 0), ((0, 1),)))
        self.text_of("row 1 -2 1/2", "row", (1, -2, (1, 2)))
        self.text_of("row 0", "row", (0,))
        self.text_of("row 2/1 2 0/1", "row", ((2, 1), 2, (0, 1)))
        self.text_of("fraction -3/2", "fraction", (-3, 2))
        self.text_of("fraction 0/1", "fraction", (0, 1))
        self.text_of("class 0 1", "class", (0, 1))

    def test_21_5_there_and_back(self):
        source = random.Random(971)
        for _ in range(40):
            for kind, value in random_values(source):
                self.text_of(write_value(value, kind=kind), kind, value)

    def test_one_value_of_several_kinds(self):
        self.text_of("row 2 1", "row", (2, 1))
        self.text_of("fraction 2/1", "fraction", (2, 1))
        self.text_of("class 2 1", "class", (2, 1))
        self.text_of("row 2/1", "row", ((2, 1),))

    def test_trees_of_forty_places(self):
        for tree in (made_line((2,) * 40), made_star(60, (BIG,) * 39), star_tree(3, ((20, 19), (21, 20)))):
            text = write_value(tree, kind="tree")
            self.text_of(text, "tree", tree)
            self.assertEqual(read_value(text).size, 40)
            self.no_text(text.replace(" |", " 1 |", 1), 41)
        self.text_of("row " + " ".join(["1/2"] * 40), "row", ((1, 2),) * 40)
        self.no_text("row " + " ".join(["1/2"] * 41), 41)
        self.text_of("class " + " ".join(["0"] * 40), "class", (0,) * 40)
        self.no_text("class " + " ".join(["0"] * 41), 41)

    def test_integers_of_sixty_digits_and_of_sixty_one(self):
        self.text_of("row " + LONGEST + " -" + LONGEST, "row", (BIG, -BIG))
        self.text_of("class " + LONGEST, "class", (BIG,))
        self.text_of("tree " + LONGEST, "tree", made_tree((BIG,), ()))
        self.text_of("fraction " + LONGEST + "/2", "fraction", (BIG, 2))
        for text in ("row 1", "class 1", "tree 1", "row -1"):
            self.no_text(text + "0" * 60, 1)
        self.no_text("fraction 1" + "0" * 60 + "/1", 1)
        self.no_text("fraction 1/1" + "0" * 60, 1)
        self.no_text("row 1 2 1" + "0" * 60, 3)
        self.no_text("row " + "9" * 19000, 1)

    def test_strings_of_20000_characters_and_one_more(self):
        rest = "tree 1 1" + " | 0 1" * 3332
        self.assertEqual(len(rest), 20000)
        self.no_text(rest, 3 + 3 * 3332)
        self.no_text(rest + " ", 0)
        self.no_text(rest + "x", 0)
        self.no_text("row " + "1" * 19996, 1)
        self.no_text("row " + "1" * 19997, 0)
        longest = write_value(((BIG, BIG - 1),) * 40, kind="row")
        self.assertTrue(4800 < len(longest) < 20000)
        self.assertIs(is_text(longest), True)


class Spots(TextCase):
    def test_values_that_are_no_strings(self):
        for value in odd_values():
            if not isinstance(value, str):
                self.no_text(value, 0)
        for value in (b"row 1", ["row", "1"], ("row", "1"), None, CHAIN):
            self.no_text(value, 0)

    def test_kinds(self):
        for text in ("", " ", "Row 1", "rows 1", " row 1", "row\n1", "row1", "1", "frac 1/2", "|", "tree\t2", "classes 0", "trees 2"):
            self.no_text(text, 0)
        for kind in KINDS:
            self.no_text(kind, 1)
            self.no_text(kind + " ", 1)
            self.no_text(kind + "  1", 1)

    def test_integer_parts(self):
        for part in ("00", "01", "-0", "-01", "+1", "1.0", "--1", "-", "1e3", "1_0", " 1", "x", "\u0661", "\u00b2", "1\n", "0x1", "", "|", "/", "1/", "/1"):
            if " " not in part:
                self.no_text("row 5 " + part, 2)
                self.no_text("class 5 " + part, 2)
                self.no_text("row " + part + " 5", 1)
                self.no_text("tree " + part, 1)
        self.no_text("class -1", 1)
        self.no_text("class 0 1 -1 2", 3)
        self.no_text("class 1/2", 1)
        self.no_text("tree -1", 1)
        self.no_text("tree 1/2", 1)
        self.text_of("row -1", "row", (-1,))

    def test_fraction_parts(self):
        for part in ("4/6", "1/0", "1/-2", "0/2", "1/2/3", "1/", "/2", "1/02", "01/2", "-0/1", "1//2", "2/2", "x/2", "1/x", "1/2 ", "+1/2"):
            spot = 2 if part.endswith(" ") else 1
            self.no_text("row " + part, spot)
            self.no_text("fraction " + part, spot)
        self.no_text("fraction 2", 1)
        self.no_text("fraction 1/2 1/3", 2)
        self.no_text("fraction 1/2 x", 2)
        self.no_text("fraction x 1/2", 1)
        self.text_of("fraction -7/3", "fraction", (-7, 3))

    def test_blanks(self):
        self.no_text("row 1 ", 2)
        self.no_text("row  1", 1)
        self.no_text("row 1  2", 2)
        self.no_text("row 1 2 ", 3)
        self.no_text(" row 1", 0)
        self.no_text("tree 2 2  | 0 1", 3)
        self.no_text("tree 2 2 | 0  1", 5)
        self.no_text("tree 2 2 | 0 1 ", 6)
        self.no_text("fraction 1/2 ", 2)

    def test_ties(self):
        self.no_text("tree 2 2", 3)
        self.no_text("tree | 0 1", 1)
        self.no_text("tree 2 2 |", 4)
        self.no_text("tree 2 2 | 0", 5)
        self.no_text("tree 2 2 | 1", 5)
        self.no_text("tree 2 2 | 1 0", 5)
        self.no_text("tree 2 2 | 0 0", 5)
        self.no_text("tree 2 2 | 0 2", 5)
        self.no_text("tree 2 2 | 2 3", 4)
        self.no_text("tree 2 2 | -1 1", 4)
        self.no_text("tree 2 2 | 0 -1", 5)
        self.no_text("tree 2 2 | 00 1", 4)
        self.no_text("tree 2 2 | 0 01", 5)
        self.no_text("tree 2 2 | 0 1/1", 5)
        self.no_text("tree 2 2 | | 0 1", 4)
        self.no_text("tree 2 2 | 0 | 1", 5)
        self.no_text("tree 2 2 | 0 1 0", 6)
        self.no_text("tree 2 2 | 0 1 |", 7)
        self.no_text("tree 2 2 | 0 1 | x", 7)
        self.no_text("tree 2 2 | 0 1 | 0 1", 9)
        self.no_text("tree 2 2 2 | 0 1", 7)
        self.no_text("tree 2 2 2 | 1 2 | 0 1", 10)
        self.no_text("tree 2 2 2 | 0 1 | 0 1", 10)
        self.no_text("tree 2 2 2 | 0 1 | 0 2 | 1 2", 13)
        self.no_text("tree 2 2 2 2 | 0 1 | 0 1 | 2 3", 14)
        self.no_text("tree 2 2 2 2 | 0 1 | 0 2 | 1 2", 14)
        self.no_text("tree 2 | 0 0", 4)
        self.no_text("tree 2 |", 3)
        self.no_text("tree 2 | 0", 4)
        self.no_text("tree 2 2 x 0 1", 3)
        self.text_of("tree 2 2 2 | 0 2 | 1 2", "tree", Tree((2, 2, 2), ((0, 2), (1, 2))))

    def test_ends_left_out(self):
        source = random.Random(972)
        for _ in range(6):
            for kind, value in random_values(source):
                parts = write_value(value, kind=kind).split(" ")
                for many in range(1, len(parts)):
                    text = " ".join(parts[:many])
                    if not is_text(text):
                        self.no_text(text, many)
                    self.assertEqual(is_text(text), many > 1 and kind in ("row", "class") or text == "tree " + parts[1] and many == 2)

    def test_changed_parts(self):
        source = random.Random(973)
        for _ in range(12):
            for kind, value in random_values(source):
                parts = write_value(value, kind=kind).split(" ")
                at = source.randrange(len(parts))
                for wrong in ("", "x", "-0", "1/1/1", "007"):
                    self.no_text(" ".join(parts[:at] + [wrong] + parts[at + 1:]), at)


class Written(TextCase):
    def test_unknown_kinds(self):
        for kind in ("", "Tree", "trees", "fractions", None, 0, True, ["tree"], ("tree",), {}, CHAIN, "tree ", LONG):
            check_error(self, UnknownName, kind, write_value, None, kind=kind)
            check_error(self, UnknownName, kind, write_value, CHAIN, kind=kind)

    def test_values_of_another_kind(self):
        wrong = {
            "tree": (None, (1,), "tree 2", 2, [CHAIN], (CHAIN,), ((2,), ())),
            "row": (None, (), [1], (True,), (1, None), ((2, 4),), ((1, 0),), ((1, -2),), ((1, 2, 3),), ((1,),), ([1, 2],), "1", 1, CHAIN, (1,) * 41, ("1",)),
            "fraction": (None, (), (1,), (2, 4), (1, 0), (1, -2), (True, 2), (1, True), (1, 2, 3), [1, 2], 1, "1/2", CHAIN, ((1, 2), 1)),
            "class": (None, (), [0], (-1,), (0, -1), (True,), ((0, 1),), (0, None), "0", 0, CHAIN, (0,) * 41),
        }
        for kind, values in wrong.items():
            for value in values:
                check_error(self, InvalidOperation, NO_VALUE, write_value, value, kind=kind)

    def test_more_than_sixty_digits(self):
        for value, kind in (((TOO_BIG,), "row"), ((1, -LONG), "row"), (((1, TOO_BIG),), "row"), ((TOO_BIG, 1), "fraction"), ((1, LONG), "fraction"),
                            ((0, TOO_BIG), "class"), (made_tree((1, TOO_BIG), ((0, 1),)), "tree"), ((10 ** 5000,), "row")):
            check_error(self, TooMany, 60, write_value, value, kind=kind)
        # The kind comes first, then the form, the length last.
        check_error(self, UnknownName, "x", write_value, (TOO_BIG,), kind="x")
        check_error(self, InvalidOperation, NO_VALUE, write_value, (TOO_BIG, True), kind="row")
        check_error(self, InvalidOperation, NO_VALUE, write_value, (TOO_BIG, TOO_BIG), kind="fraction")
        check_error(self, InvalidOperation, NO_VALUE, write_value, (-TOO_BIG,), kind="class")
        check_error(self, InvalidOperation, NO_VALUE, write_value, (TOO_BIG,) * 41, kind="class")

    def test_the_kind_is_passed_by_keyword(self):
        with self.assertRaises(TypeError):
            write_value((1,), "row")
        with self.assertRaises(TypeError):
            write_value((1,))


class NotTrue(TextCase):
    def test_21_6(self):
        self.assertTrue(is_text("row 1 2") and is_text("row 1"))
        self.assertNotEqual(write_value(((2, 1),), kind="row"), write_value((2,), kind="row"))
        one, other = Tree.line((1, 2)), Tree.line((2, 1))
        self.assertTrue(are_alike(one, other))
        self.assertNotEqual(write_value(one, kind="tree"), write_value(other, kind="tree"))
        self.assertTrue(write_value(LINE, kind="tree") == "tree 2 2 | 0 1")


if __name__ == "__main__":
    unittest.main()
