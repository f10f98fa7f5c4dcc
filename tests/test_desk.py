"""Stage 20: [20.1] to [20.4], with [0.2] to [0.4], for tametrees.desk.desk."""

import random
import unittest

from tametrees.desk.desk import MAX_KEPT, MAX_PROMISES, Desk
from tametrees.errors import InvalidNumber, InvalidOperation, InvalidTree, NothingToUndo, Refused, TooMany, UnknownName
from tametrees.rows.tame import is_tame
from tametrees.trees.definite import determinant_of, is_definite
from tametrees.trees.kin import are_kin, put_at_place, put_at_tie, taken_down
from tametrees.trees.trees import Tree, made_tree
from tests.helpers import BIG, LONG, NO_VALUE, TOO_BIG, check_error, check_same, made_line, odd_values, plain

ONE, TWO, LINE, SEVEN = Tree((1,), ()), Tree((2,), ()), Tree.line((2, 2)), Tree.star(1, ((2,), (3,), (7,)))
BARRED, FORK = Tree.line((1, 1)), Tree.star(2, ((2,), (2,), (2,)))
LETTERS = "abcdefghijklmnopqrstuvwxyz"
NO_NAMES = ("", "A", "a1", "a b", " a", "a ", "abcdefghi", "a\n", "ab-", "\u00e4", None, 0, True, ("a",), ["a"], {"a": 1}, {}, 1.5, SEVEN, b"a")


def filled():
    """A desk with trees, promises, and a deed that was taken back."""
    desk = Desk()
    desk.keep("line", LINE)
    desk.keep("seven", SEVEN)
    desk.promise("det", ("determinant", "line", 3))
    desk.promise("tame", ("tame", "line"))
    desk.put_up("line", 0)
    desk.keep("two", TWO)
    desk.undo()
    return desk


def told(desk):
    """All that a desk shows."""
    return (desk.names, desk.labels, desk.deeds, [plain(desk.tree(name)) for name in desk.names], [desk.promised(label) for label in desk.labels],
            len(desk), str(desk))


def told_by_redo(desk):
    """All that it shows, and what it shows with each deed that can be done again or taken back."""
    twin, shown = desk.twin(), [told(desk)]
    try:
        while True:
            twin.redo()
            shown.append(told(twin))
    except NothingToUndo:
        pass
    while twin.deeds:
        twin.undo()
        shown.append(told(twin))
    return shown


class DeskCase(unittest.TestCase):
    def refused(self, desk, kind, kept, name, *values, **words):
        """The deed is refused, and nothing is changed."""
        before = told_by_redo(desk)
        check_error(self, kind, kept, getattr(desk, name), *values, **words)
        self.assertEqual(told_by_redo(desk), before)


class Names(DeskCase):
    def test_the_bounds(self):
        check_same(self, (MAX_KEPT, MAX_PROMISES), (12, 12))

    def test_an_empty_desk(self):
        desk = Desk()
        check_same(self, told(desk), ((), (), 0, [], [], 0, "desk of 0 trees, 0 promises"))
        self.assertEqual(desk, Desk())

    def test_20_1_names_and_labels(self):
        for name in ("a", "z", "abcdefgh", "zzzzzzzz", "tree"):
            desk = Desk()
            check_same(self, desk.keep(name, LINE), 1)
            check_same(self, desk.promise(name, ("definite", name)), 2)
            check_same(self, (desk.names, desk.labels, name in desk), ((name,), (name,), True))
        for name in NO_NAMES:
            desk = filled()
            self.refused(desk, InvalidOperation, NO_VALUE, "keep", name, LINE)
            self.refused(desk, InvalidOperation, NO_VALUE, "promise", name, ("definite", "line"))
            check_same(self, name in desk, False)

    def test_names_that_have_no_tree(self):
        desk = filled()
        for name in NO_NAMES + ("two", "lines", "det") + tuple(odd_values()):
            for call, values in (("tree", ()), ("put_up", (None,)), ("take_down", (None,)), ("cut", (None,)), ("raise_number", (None,)), ("drop", ())):
                self.refused(desk, UnknownName, name, call, name, *values)
        for label in NO_NAMES + ("line", "two") + tuple(odd_values()):
            self.refused(desk, UnknownName, label, "promised", label)
            self.refused(desk, UnknownName, label, "release", label)

    def test_in_accepts_every_value(self):
        desk = filled()
        for value in odd_values() + list(NO_NAMES):
            check_same(self, value in desk, False)
            check_same(self, value not in desk, True)
        check_same(self, ("line" in desk, "two" in desk, "det" in desk), (True, False, False))

    def test_a_desk_is_not_iterated_over(self):
        with self.assertRaises(TypeError):
            iter(filled())
        with self.assertRaises(TypeError):
            filled() + filled()
        with self.assertRaises(TypeError):
            filled() < filled()


class Deeds(DeskCase):
    def test_each_deed_returns_how_many_stand(self):
        desk = Desk()
        check_same(self, desk.keep("a", LINE), 1)
        check_same(self, desk.put_up("a", 1), 2)
        check_same(self, desk.put_up("a", 2, 1), 3)
        check_same(self, desk.take_down("a", 3), 4)
        check_same(self, desk.raise_number("a", 0), 5)
        check_same(self, desk.cut("a", (0, 1)), 6)
        check_same(self, desk.promise("p", ("definite", "a")), 7)
        check_same(self, desk.release("p"), 8)
        check_same(self, desk.drop("a"), 9)
        check_same(self, (desk.deeds, desk.names, desk.labels), (9, (), ()))
        check_same(self, [desk.undo() for _ in range(9)], [8, 7, 6, 5, 4, 3, 2, 1, 0])
        check_same(self, [desk.redo(times=2), desk.redo(times=7)], [2, 9])

    def test_what_deeds_make(self):
        desk = Desk()
        desk.keep("a", FORK)
        desk.put_up("a", 2)
        self.assertEqual(desk.tree("a"), put_at_place(FORK, 2))
        desk.put_up("a", 0, 1)
        made = put_at_tie(put_at_place(FORK, 2), 0, 1)
        self.assertEqual(desk.tree("a"), made)
        desk.undo()
        desk.put_up("a", 1, 0)
        self.assertEqual(desk.tree("a"), made)
        desk.take_down("a", 4)
        self.assertEqual(desk.tree("a"), taken_down(made, 4))
        before = desk.tree("a")
        desk.raise_number("a", 1, by=60)
        self.assertEqual(desk.tree("a").numbers, before.numbers[:1] + (before[1] + 60,) + before.numbers[2:])
        desk.raise_number("a", 1)
        self.assertEqual(desk.tree("a")[1], before[1] + 61)
        desk.raise_number("a", 1, by=59)
        self.assertEqual((desk.tree("a")[1], desk.tree("a").ties), (before[1] + 120, before.ties))
        desk.cut("a", (0, 2))
        self.assertEqual(desk.tree("a").numbers, (before[0], before[2]))

    def test_deeds_that_change_nothing(self):
        desk = Desk()
        desk.keep("a", LINE)
        check_same(self, desk.keep("a", LINE), 2)
        check_same(self, desk.cut("a", (0, 1)), 3)
        check_same(self, desk.undo(times=2), 1)
        check_same(self, desk.cut("a", (0, 1)), 2)
        # A further deed, also such a one, ends what could be done again.
        self.refused(desk, NothingToUndo, 1, "redo")

    def test_a_tree_in_the_place_of_a_former_one(self):
        desk = filled()
        check_same(self, desk.keep("seven", TWO), 6)
        self.assertEqual((desk.tree("seven"), len(desk)), (TWO, 2))

    def test_wrong_values(self):
        desk = filled()
        for value in odd_values():
            if not isinstance(value, Tree):
                self.refused(desk, InvalidTree, NO_VALUE, "keep", "new", value)
                self.refused(desk, InvalidTree, NO_VALUE, "keep", "line", value)
            if type(value) is not int or not 0 <= value < 3:
                self.refused(desk, InvalidNumber, value, "put_up", "line", value)
                self.refused(desk, InvalidNumber, value, "put_up", "line", 0, value)
                self.refused(desk, InvalidNumber, value, "put_up", "line", value, None)
                self.refused(desk, InvalidNumber, value, "take_down", "line", value)
                self.refused(desk, InvalidNumber, value, "raise_number", "line", value, by=None)
            if type(value) is not int or not 1 <= value <= 60:
                self.refused(desk, InvalidNumber, value, "raise_number", "line", 0, by=value)
            if type(value) is not tuple or value not in ((0,), (1,), (0, 1)):
                self.refused(desk, InvalidOperation, NO_VALUE, "cut", "line", value)
        for places in ((), (0, 1, 2), (0, 1, None), (None,) * 5):
            self.refused(desk, InvalidOperation, NO_VALUE, "put_up", "line", *places)
        self.refused(desk, InvalidOperation, NO_VALUE, "put_up", "line", 1, 2)
        self.refused(desk, InvalidOperation, NO_VALUE, "put_up", "line", 0, 0)
        self.refused(desk, InvalidOperation, NO_VALUE, "take_down", "line", 0)
        self.refused(desk, InvalidOperation, NO_VALUE, "cut", "line", (1, 2))

    def test_trees_of_forty_places(self):
        desk = Desk()
        desk.keep("a", made_line((2,) * 40))
        self.refused(desk, TooMany, 40, "put_up", "a", 0)
        self.refused(desk, TooMany, 40, "put_up", "a", 0, 1)
        self.refused(desk, InvalidOperation, NO_VALUE, "put_up", "a", 0, 2)
        check_same(self, desk.promise("p", ("tame", "a")), 2)

    def test_a_thirteenth_name(self):
        desk = Desk()
        for at, name in enumerate(LETTERS[:12]):
            check_same(self, desk.keep(name, made_tree((at,), ())), at + 1)
        check_same(self, desk.names, tuple(LETTERS[:12]))
        self.refused(desk, TooMany, 12, "keep", "m", TWO)
        self.refused(desk, InvalidTree, NO_VALUE, "keep", "m", None)
        check_same(self, desk.keep("l", TWO), 13)
        desk.drop("c")
        check_same(self, desk.keep("m", TWO), 15)
        self.assertEqual(len(desk), 12)

    def test_the_errors_of_keep_come_in_their_order(self):
        desk = filled()
        self.refused(desk, InvalidOperation, NO_VALUE, "keep", "NO", None)
        desk.promise("d", ("determinant", "seven", 1))
        self.refused(desk, Refused, ("promise", "d"), "keep", "seven", TWO)


class Promises(DeskCase):
    def test_20_2_promises_of_every_kind(self):
        desk = Desk()
        for name, tree in (("fork", FORK), ("seven", SEVEN), ("barred", BARRED), ("nil", Tree((0,), ()))):
            desk.keep(name, tree)
        desk.keep("up", put_at_tie(put_at_place(FORK, 1), 0, 1))
        trees = {name: desk.tree(name) for name in desk.names}
        for f, tree in trees.items():
            true = [("determinant", f, determinant_of(tree))]
            false = [("determinant", f, determinant_of(tree) + 1)]
            (true if is_definite(tree) else false).append(("definite", f))
            (true if is_definite(tree) and is_tame(tree) else false).append(("tame", f))
            for g, other in trees.items():
                both = is_definite(tree) and is_definite(other)
                (true if both and are_kin(tree, other) else false).append(("kin", f, g))
            for value in true:
                twin = desk.twin()
                check_same(self, twin.promise("p", value), 6)
                check_same(self, twin.promised("p"), value)
            for value in false:
                self.refused(desk, Refused, ("promise", "p"), "promise", "p", value)

    def test_values_that_are_no_promises(self):
        desk = filled()
        wrong = odd_values() + [
            ("definite",), ("definite", "line", "line"), ("tame",), ("tame", "line", 3), ("determinant", "line"), ("determinant", "line", "3"),
            ("determinant", "line", True), ("determinant", "line", TOO_BIG), ("determinant", "line", -LONG), ("determinant", "line", (3, 1)),
            ("kin", "line"), ("kin", "line", 3), ("kin", "line", "seven", "two"), ["definite", "line"], ("Definite", "line"), ("definite", "Line"),
            ("definite", "x" * 9), ("definite", None), ("kin", "", "line"), ("kin", "line", ""), (None, "line"), ((), "line"), (["tame"], "line"),
            ("definite", ["line"]), "definite line", ("determinant", 3, "line"), {"definite": "line"}, (SEVEN, "line"), ("tame", SEVEN),
        ]
        for value in wrong:
            self.refused(desk, InvalidOperation, NO_VALUE, "promise", "new", value)
            # This comes ahead of a label that has a promise.
            self.refused(desk, InvalidOperation, NO_VALUE, "promise", "det", value)

    def test_the_errors_of_promise_come_in_their_order(self):
        desk = filled()
        self.refused(desk, InvalidOperation, NO_VALUE, "promise", "NO", None)
        self.refused(desk, Refused, ("label", "det"), "promise", "det", ("definite", "nobody"))
        self.refused(desk, Refused, ("label", "det"), "promise", "det", ("determinant", "line", 3))
        self.refused(desk, UnknownName, "nobody", "promise", "new", ("definite", "nobody"))
        self.refused(desk, UnknownName, "nobody", "promise", "new", ("kin", "nobody", "none"))
        self.refused(desk, UnknownName, "none", "promise", "new", ("kin", "line", "none"))
        for label in LETTERS[:10]:
            desk.promise(label, ("definite", "line"))
        self.assertEqual(len(desk.labels), 12)
        self.refused(desk, TooMany, 12, "promise", "new", ("definite", "nobody"))
        self.refused(desk, TooMany, 12, "promise", "new", ("definite", "line"))
        self.refused(desk, Refused, ("label", "a"), "promise", "a", ("definite", "line"))
        desk.release("a")
        check_same(self, desk.promise("new", ("determinant", "line", 3)), 17)

    def test_20_3_the_least_label_is_told(self):
        desk = Desk()
        desk.keep("a", LINE)
        for label in ("zz", "b", "c", "m"):
            desk.promise(label, ("determinant", "a", 3))
        self.refused(desk, Refused, ("promise", "b"), "raise_number", "a", 0)
        self.refused(desk, Refused, ("promise", "b"), "drop", "a")
        self.refused(desk, Refused, ("promise", "b"), "cut", "a", (0,))
        self.refused(desk, Refused, ("promise", "b"), "keep", "a", TWO)
        desk.release("b")
        self.refused(desk, Refused, ("promise", "c"), "drop", "a")
        # Other errors come first.
        self.refused(desk, InvalidNumber, 61, "raise_number", "a", 0, by=61)
        self.refused(desk, InvalidOperation, NO_VALUE, "cut", "a", ())

    def test_a_further_promise_must_be_true(self):
        desk = Desk()
        desk.keep("a", BARRED)
        for value in (("definite", "a"), ("tame", "a"), ("kin", "a", "a"), ("determinant", "a", 1), ("determinant", "a", BIG)):
            self.refused(desk, Refused, ("promise", "p"), "promise", "p", value)
        check_same(self, desk.promise("p", ("determinant", "a", 0)), 2)

    def test_20_4_deeds_that_keep_promises(self):
        source = random.Random(951)
        desk = Desk()
        desk.keep("a", FORK)
        desk.keep("b", FORK)
        for label, value in (("d", ("definite", "a")), ("t", ("tame", "a")), ("n", ("determinant", "a", 4)), ("k", ("kin", "a", "b"))):
            desk.promise(label, value)
        for _ in range(12):
            tree = desk.tree("a")
            places = source.choice(tree.ties) if source.random() < 0.6 else (source.randrange(tree.size),)
            desk.put_up("a", *places)
        for _ in range(6):
            desk.take_down("a", desk.tree("a").numbers.index(1))
        self.assertEqual(desk.labels, ("d", "k", "n", "t"))
        desk.release("n")
        desk.release("k")
        desk.raise_number("a", 0, by=3)
        desk.cut("a", (0,) + desk.tree("a").neighbours(0))
        self.assertTrue(is_tame(desk.tree("a")))

    def test_a_dropped_tree_breaks_its_promises(self):
        desk = Desk()
        desk.keep("a", LINE)
        desk.keep("b", LINE)
        desk.promise("k", ("kin", "a", "b"))
        self.refused(desk, Refused, ("promise", "k"), "drop", "b")
        self.refused(desk, Refused, ("promise", "k"), "drop", "a")
        desk.release("k")
        check_same(self, desk.drop("b"), 5)
        self.assertEqual(desk.names, ("a",))


class Undone(DeskCase):
    def test_as_many_as_there_are_and_one_more(self):
        desk = filled()
        shown = told_by_redo(desk)
        check_same(self, (desk.deeds, desk.undo(times=0), desk.redo(times=0)), (5, 5, 5))
        self.assertEqual(told_by_redo(desk), shown)
        self.refused(desk, NothingToUndo, 6, "undo", times=6)
        self.refused(desk, NothingToUndo, 2, "redo", times=2)
        self.refused(desk, NothingToUndo, BIG, "undo", times=BIG)
        check_same(self, desk.undo(times=5), 0)
        check_same(self, told(desk), told(Desk()))
        self.refused(desk, NothingToUndo, 1, "undo")
        check_same(self, desk.undo(times=0), 0)
        self.refused(desk, NothingToUndo, 7, "redo", times=7)
        check_same(self, desk.redo(times=6), 6)
        self.refused(desk, NothingToUndo, 1, "redo")
        check_same(self, (desk.names, desk.tree("line").numbers), (("line", "seven", "two"), (3, 2, 1)))

    def test_times_of_wrong_form(self):
        desk = filled()
        for value in odd_values():
            if type(value) is not int or value < 0 or value >= TOO_BIG:
                self.refused(desk, InvalidNumber, value, "undo", times=value)
                self.refused(desk, InvalidNumber, value, "redo", times=value)

    def test_a_further_deed_ends_what_could_be_done_again(self):
        desk = filled()
        desk.undo(times=2)
        self.refused(desk, Refused, ("label", "det"), "promise", "det", ("tame", "line"))
        check_same(self, desk.redo(times=3), 6)
        desk.undo(times=3)
        check_same(self, desk.keep("x", ONE), 4)
        self.refused(desk, NothingToUndo, 1, "redo")
        check_same(self, desk.names, ("line", "seven", "x"))

    def test_promises_that_were_taken_back_bind_no_more(self):
        desk = Desk()
        desk.keep("a", LINE)
        desk.promise("p", ("determinant", "a", 3))
        desk.undo()
        check_same(self, desk.raise_number("a", 0), 2)
        self.refused(desk, UnknownName, "p", "promised", "p")


class During(DeskCase):
    def test_what_the_call_returns(self):
        desk = filled()
        shown = told_by_redo(desk)

        def work(other):
            self.assertIs(other, desk)
            other.drop("seven")
            other.undo(times=3)
            other.keep("zz", ONE)
            return other.names, other.deeds

        check_same(self, desk.during(work), (("line", "seven", "zz"), 4))
        self.assertEqual(told_by_redo(desk), shown)
        self.assertIsNone(desk.during(lambda other: None))
        check_same(self, desk.during(len), 2)
        check_same(self, desk.during(str), "desk of 2 trees, 2 promises")

    def test_a_call_that_raises(self):
        desk = filled()
        shown = told_by_redo(desk)

        def fail(other):
            other.redo()
            other.drop("two")
            other.undo(times=99)

        check_error(self, NothingToUndo, 99, desk.during, fail)
        self.assertEqual(told_by_redo(desk), shown)
        for error in (ZeroDivisionError, KeyboardInterrupt, KeyError):
            def interrupt(other):
                other.undo(times=5)
                raise error
            with self.assertRaises(error):
                desk.during(interrupt)
            self.assertEqual(told_by_redo(desk), shown)

    def test_calls_within_calls(self):
        desk = filled()
        shown = told_by_redo(desk)

        def outer(other):
            other.keep("x", ONE)
            inner = other.during(lambda same: (same.drop("x"), same.names)[1])
            return inner, other.names

        check_same(self, desk.during(outer), (("line", "seven"), ("line", "seven", "x")))
        self.assertEqual(told_by_redo(desk), shown)


class Twins(DeskCase):
    def test_a_twin_goes_on_by_itself(self):
        desk = filled()
        shown = told_by_redo(desk)
        twin = desk.twin()
        self.assertEqual(told_by_redo(twin), shown)
        self.assertTrue(twin == desk and not twin != desk and twin is not desk)
        check_same(self, twin.redo(), 6)
        twin.drop("two")
        twin.release("det")
        self.assertEqual(told_by_redo(desk), shown)
        self.assertFalse(twin == desk)
        other = filled()
        more = other.twin()
        other.undo(times=5)
        other.keep("z", ONE)
        self.assertEqual(told_by_redo(more), shown)

    def test_what_is_returned_is_not_shared(self):
        desk = filled()
        self.assertIs(type(desk.names), tuple)
        self.assertIs(type(desk.labels), tuple)
        tree = desk.tree("line")
        desk.put_up("line", 0)
        self.assertEqual(tree.numbers, (3, 2, 1))

    def test_equal_desks(self):
        one, other = Desk(), Desk()
        one.keep("a", LINE)
        one.keep("b", TWO)
        other.keep("b", Tree((2,), ()))
        other.keep("a", ONE)
        other.keep("a", Tree.line((2, 2)))
        self.assertTrue(one == other)
        self.assertIs(one != other, False)
        one.promise("p", ("tame", "a"))
        self.assertIs(one == other, False)
        other.promise("q", ("tame", "a"))
        self.assertIs(one == other, False)
        other.undo()
        other.promise("p", ("definite", "a"))
        self.assertIs(one == other, False)
        for value in odd_values() + list(NO_NAMES):
            self.assertIs(one == value, False)
            self.assertIs(one != value, True)

    def test_strings(self):
        desk = Desk()
        desk.keep("a", LINE)
        self.assertEqual(str(desk), "desk of 1 trees, 0 promises")
        desk.promise("p", ("tame", "a"))
        self.assertEqual(str(desk), "desk of 1 trees, 1 promises")

    def test_parameters_by_keyword(self):
        desk = filled()
        for call in (lambda: desk.undo(1), lambda: desk.redo(1), lambda: desk.raise_number("line", 0, 1)):
            with self.assertRaises(TypeError):
                call()

    def test_properties_are_not_assigned(self):
        desk = filled()
        for name in ("names", "labels", "deeds"):
            with self.assertRaises(AttributeError):
                setattr(desk, name, ())


if __name__ == "__main__":
    unittest.main()
