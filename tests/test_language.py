"""The form of the package: what can be seen of the rules of the language from the code alone."""

import ast
import builtins
import pathlib
import re
import unittest
import warnings

ROOT = pathlib.Path(__file__).resolve().parent.parent
PACKAGE = ROOT / "tametrees"
FILES = sorted(PACKAGE.rglob("*.py"))
LIBRARY = {
    "math": ("gcd", "lcm", "isqrt", "comb", "perm", "factorial"),
    "heapq": ("heappush", "heappop", "heapify", "heapreplace", "heappushpop"),
}
METHODS_OF_CLASSES = {
    ("trees.trees", "Tree"): "line star numbers ties size degrees table neighbours press product part with_number __getitem__ "
                             "__contains__ __len__ __iter__ __eq__ __str__",
    ("desk.desk", "Desk"): "keep put_up take_down cut raise_number drop promise release undo redo during tree promised names "
                           "labels deeds twin __contains__ __len__ __eq__ __str__",
}
BUILTINS = set(
    "len range enumerate zip min max sum abs sorted reversed int str bool list tuple dict set isinstance repr any all "
    "divmod iter next Exception ValueError TypeError KeyError IndexError LookupError ZeroDivisionError ArithmeticError "
    "OverflowError RuntimeError StopIteration NotImplemented property classmethod staticmethod".split()
)
METHODS = set(
    "append clear copy count endswith extend find get index insert isalnum isalpha isdigit islower isspace isupper items "
    "join keys ljust lower lstrip partition pop remove replace reverse rfind rjust rpartition rsplit rstrip setdefault "
    "split splitlines startswith strip update upper values zfill bit_length add discard".split()
)
DUNDERS = set("__init__ __eq__ __repr__ __str__ __len__ __iter__ __contains__ __getitem__ __ne__".split())
NODES = (
    ast.Module, ast.FunctionDef, ast.ClassDef, ast.ImportFrom, ast.alias, ast.Assign, ast.AugAssign, ast.Expr, ast.Return,
    ast.If, ast.While, ast.For, ast.Break, ast.Continue, ast.Pass, ast.Raise, ast.Yield, ast.YieldFrom, ast.Delete,
    ast.Try, ast.ExceptHandler, ast.arguments, ast.arg, ast.keyword, ast.Constant, ast.Name, ast.Attribute, ast.Subscript,
    ast.Slice, ast.Call, ast.BinOp, ast.UnaryOp, ast.BoolOp, ast.Compare, ast.IfExp, ast.Tuple, ast.List, ast.Dict,
    ast.ListComp, ast.DictComp, ast.SetComp, ast.comprehension, ast.Lambda, ast.JoinedStr, ast.FormattedValue,
    ast.Starred, ast.expr_context, ast.operator, ast.unaryop, ast.boolop, ast.cmpop,
)
EVERYWHERE = "register mro elements open input law version_info with_traceback add_note".split()
WORDS = (
    "typing|typing_extensions|enum|Enum|IntEnum|StrEnum|Flag|IntFlag|Generic|Protocol|ABC|ABCMeta|namedtuple|NamedTuple|"
    "TypedDict|TYPE_CHECKING|abstractmethod"
)
INTERFACE = {
    "errors": "TreeError InvalidTree InvalidRow InvalidClass InvalidTable InvalidFraction InvalidOperation ParseError "
              "InvalidNumber UnknownName TooMany Refused NothingToUndo",
    "base.fractions": "is_integer is_fraction is_number lowest plus minus times over compare floor_of rest_of",
    "base.tables": "MAX_SIDE is_table rank factors determinant undone",
    "trees.trees": "MAX_PLACES MAX_NUMBER Tree tree_code are_alike likenesses is_likeness renamed",
    "trees.definite": "is_definite pivots determinant_of minors definite_paper is_definite_paper",
    "trees.duals": "path_between left_determinant undone_entry dual_row is_dual",
    "trees.groups": "MAX_CLASSES is_class classes_of class_of boxed_row place_class class_sum class_opposite class_order "
                    "class_product class_factors halves_of",
    "trees.kin": "MAX_PLACES takeable taken_down put_at_place put_at_tie least_tree are_kin kin_paper is_kin_paper",
    "trees.chains": "MAX_CHAIN MAX_TOP chain_numbers chain_fraction turned_chain beside_chain joined_chain chain_down "
                    "saw_sum chain_share",
    "rows.steps": "MOST_STEPS is_quiet quiet_above steps_above is_steps least_cycle",
    "rows.tame": "worth is_tame tame_paper is_tame_paper least_sink is_least_sink multiplicity",
    "rows.twos": "twos_kind two_rows two_count greatest_two two_heights",
    "rows.depth": "DEPTHS k_row k_multiple share_of depth_of even_row",
    "odd.heights": "MOST_PRESSES MOST_STEPS odd_class odd_square height_path height highest is_highest",
    "low.pieces": "MAX_LOW MAX_LEVELS worth_in least_level low_rows low_pieces piece_counts stair_code leaf_count",
    "low.near": "MAX_LIFT MAX_LEVEL near_places lifted_row tau tau_code near_count",
    "low.stars": "MAX_LEGS MOST_TOP MOST_TAU star_tree is_star_definite star_tau star_count triple_star triple_count",
    "low.boxes": "MAX_CELLS sure_box box_count class_count euler_numbers",
    "series.series": "MOST_TERMS coefficient is_far far_row left_behind",
    "number.number": "class_share class_shares number_by_classes number_by_table",
    "odd.halves": "MAX_LOTS wu_lots is_wu_lot wu_number wu_class",
    "desk.desk": "MAX_KEPT MAX_PROMISES Desk",
    "text.texts": "MAX_TEXT MAX_ENTRIES KINDS write_value kind_of_text read_value is_text",
}


def parsed(file):
    return ast.parse(file.read_text(encoding="ascii"))


def module_of(file):
    parts = file.relative_to(ROOT).with_suffix("").parts
    return ".".join(parts[:-1] if parts[-1] == "__init__" else parts)


def bound_names(tree):
    """The names that a module binds, imports included, each as often as it is bound."""
    names = []
    for node in tree.body:
        if isinstance(node, (ast.FunctionDef, ast.ClassDef)):
            names.append(node.name)
        elif isinstance(node, ast.ImportFrom):
            names.extend(name.name for name in node.names)
        elif isinstance(node, ast.Assign):
            names.extend(target.id for target in node.targets)
    return names


def docstrings(tree):
    found = []
    for node in ast.walk(tree):
        if isinstance(node, (ast.Module, ast.FunctionDef, ast.ClassDef)) and ast.get_docstring(node) is not None:
            found.append(node.body[0].value)
    return found


def functions(tree):
    return [node for node in ast.walk(tree) if isinstance(node, ast.FunctionDef)]


def local_names(function):
    """Parameters and assigned names of a function."""
    names = {arg.arg for arg in ast.walk(function.args) if isinstance(arg, ast.arg)}
    names.update(node.id for node in ast.walk(function) if isinstance(node, ast.Name) and isinstance(node.ctx, ast.Store))
    return names


class Files(unittest.TestCase):
    def test_the_folder_has_only_files_of_code(self):
        for path in PACKAGE.rglob("*"):
            if "__pycache__" in path.parts:
                continue
            if path.is_dir():
                self.assertTrue((path / "__init__.py").is_file(), path)
                self.assertFalse(path.with_suffix(".py").exists(), path)
            else:
                self.assertRegex(path.name, r"^[a-z_][a-z0-9_]*\.py$")
                self.assertNotIn(path.stem, dir(builtins))
                self.assertNotIn(path.stem, ("heapq", "math", "itertools", "collections", "site", "test", "tests"))
        self.assertLessEqual(len(FILES), 100)

    def test_characters_and_sizes(self):
        for file in FILES:
            text = file.read_text(encoding="ascii")
            self.assertRegex(text, r"\A[\n -~]*\Z", file)
            self.assertLessEqual(len(text.splitlines()), 399, file)
            self.assertLessEqual(max(len(line) for line in text.splitlines()), 120, file)
            for function in functions(ast.parse(text)):
                first = min([function.lineno] + [node.lineno for node in function.decorator_list])
                self.assertLessEqual(function.end_lineno - first + 1, 40, (file, function.name))

    def test_python_gives_no_warning(self):
        with warnings.catch_warnings():
            warnings.simplefilter("error")
            for file in FILES:
                compile(file.read_text(encoding="ascii"), str(file), "exec")

    def test_each_file_tells_what_it_is_for(self):
        for file in FILES:
            self.assertIsNotNone(ast.get_docstring(parsed(file)), file)


class Names(unittest.TestCase):
    def test_the_interface_stands_in_its_files(self):
        for module, words in INTERFACE.items():
            tree = parsed(PACKAGE / (module.replace(".", "/") + ".py"))
            defined = [node.name for node in tree.body if isinstance(node, (ast.FunctionDef, ast.ClassDef))]
            defined += [node.targets[0].id for node in tree.body if isinstance(node, ast.Assign)]
            for word in words.split():
                self.assertIn(word, defined, module)

    def test_the_methods_of_the_interface_stand_in_their_classes(self):
        for (module, name), words in METHODS_OF_CLASSES.items():
            tree = parsed(PACKAGE / (module.replace(".", "/") + ".py"))
            body = next(node for node in tree.body if isinstance(node, ast.ClassDef) and node.name == name).body
            methods = [node.name for node in body if isinstance(node, ast.FunctionDef)]
            for word in words.split():
                self.assertIn(word, methods, name)

    def test_no_name_is_a_method_and_an_attribute(self):
        methods, kept = set(), set()
        for file in FILES:
            for node in ast.walk(parsed(file)):
                if isinstance(node, ast.ClassDef):
                    methods.update(part.name for part in node.body if isinstance(part, ast.FunctionDef))
                if isinstance(node, ast.Attribute) and isinstance(node.ctx, ast.Store):
                    kept.add(node.attr)
        self.assertEqual(methods & kept, set())

    def test_each_name_is_bound_once_and_plain(self):
        for file in FILES:
            tree = parsed(file)
            names = bound_names(tree)
            self.assertEqual(len(names), len(set(names)), file)
            outer = {node.name for node in tree.body if isinstance(node, ast.ClassDef)}
            outer.update(name.name for node in tree.body if isinstance(node, ast.ImportFrom) for name in node.names)
            for function in functions(tree):
                self.assertFalse(local_names(function) & outer, (file, function.name))
                self.assertFalse(local_names(function) & set(dir(builtins)), (file, function.name))
            for name in names:
                self.assertNotIn(name, dir(builtins), file)

    def test_names_that_are_not_used(self):
        for file in FILES:
            text = file.read_text(encoding="ascii")
            tree = ast.parse(text)
            strings = [node for node in ast.walk(tree) if isinstance(node, ast.Constant) and isinstance(node.value, str)]
            told = docstrings(tree)
            for node in strings:
                if not any(node is part for part in told):
                    self.assertNotIn("%", node.value, file)
                    self.assertIsNone(re.search(rf"\b({WORDS})\b", node.value), (file, node.value))
            for word in ("(type)", "Meta", "metaclass=", "dataclass", "overload", "contextmanager", "_wall", "_WallAttr"):
                self.assertNotIn(word, text, file)
            for node in ast.walk(tree):
                for name in (getattr(node, "id", None), getattr(node, "attr", None), getattr(node, "arg", None),
                             getattr(node, "name", None)):
                    self.assertNotIn(name, EVERYWHERE, file)
                    if isinstance(name, str):
                        self.assertIsNone(re.fullmatch(WORDS, name), file)
                        self.assertTrue(not name.startswith("__") or name in DUNDERS, (file, name))


    def test_variables_of_comprehensions_have_names_of_their_own(self):
        for file in FILES:
            for function in functions(parsed(file)):
                comprehensions = [node for node in ast.walk(function) if isinstance(node, (ast.ListComp, ast.DictComp, ast.SetComp))]
                targets = [[part for line in node.generators for part in ast.walk(line.target) if isinstance(part, ast.Name)]
                           for node in comprehensions]
                within = {part.id for parts in targets for part in parts} - {"_"}
                kept = [part for parts in targets for part in parts]
                outside = {node.id for node in ast.walk(function) if isinstance(node, ast.Name)
                           and isinstance(node.ctx, ast.Store) and not any(node is part for part in kept)}
                outside.update(arg.arg for arg in ast.walk(function.args) if isinstance(arg, ast.arg))
                self.assertFalse(within & outside, (file, function.name))


class Imports(unittest.TestCase):
    def test_imports_name_the_file_that_defines(self):
        for file in FILES:
            for node in parsed(file).body:
                if isinstance(node, ast.ImportFrom):
                    self.assertEqual(node.level, 0)
                    self.assertTrue(all(name.asname is None for name in node.names))
                    self.check_import(file, node)

    def check_import(self, file, node):
        if node.module in LIBRARY:
            for name in node.names:
                self.assertIn(name.name, LIBRARY[node.module], file)
            return
        self.assertTrue(node.module.startswith("tametrees."), (file, node.module))
        source = ROOT / (node.module.replace(".", "/") + ".py")
        tree = parsed(source)
        defined = [part.name for part in tree.body if isinstance(part, (ast.FunctionDef, ast.ClassDef))]
        defined += [part.targets[0].id for part in tree.body if isinstance(part, ast.Assign)]
        for name in node.names:
            self.assertIn(name.name, defined, (file, node.module))

    def test_imports_are_used(self):
        for file in FILES:
            tree = parsed(file)
            used = {node.id for node in ast.walk(tree) if isinstance(node, ast.Name)}
            for node in tree.body:
                if isinstance(node, ast.ImportFrom):
                    self.assertTrue({name.name for name in node.names} <= used, file)

    def test_no_two_files_import_from_each_other(self):
        leads = {module_of(file): [node.module for node in parsed(file).body if isinstance(node, ast.ImportFrom)]
                 for file in FILES}
        for start in leads:
            reached, waiting = set(), list(leads[start])
            while waiting:
                module = waiting.pop()
                if module not in reached:
                    reached.add(module)
                    waiting.extend(leads.get(module, []))
            self.assertNotIn(start, reached)


class Statements(unittest.TestCase):
    def test_only_plain_statements(self):
        for file in FILES:
            for node in ast.walk(parsed(file)):
                self.assertIsInstance(node, NODES, (file, getattr(node, "lineno", 0)))
                self.assertNotIsInstance(node, (ast.Div, ast.MatMult), (file, getattr(node, "lineno", 0)))
                if isinstance(node, ast.Constant):
                    self.assertIn(type(node.value), (int, str, bool, type(None)), (file, node.lineno))
                if isinstance(node, ast.BinOp) and isinstance(node.op, ast.Pow):
                    self.assertIsInstance(node.right, ast.Constant, (file, node.lineno))
                    self.assertIn(node.right.value, range(65))
                if isinstance(node, ast.Compare):
                    self.check_is(file, node)

    def check_is(self, file, node):
        for sign, value in zip(node.ops, node.comparators):
            if isinstance(sign, (ast.Is, ast.IsNot)):
                self.assertIsInstance(value, ast.Constant, (file, node.lineno))
                self.assertIn(value.value, (None, True, False))

    def test_module_level(self):
        for file in FILES:
            for at, node in enumerate(parsed(file).body):
                if at == 0 and isinstance(node, ast.Expr):
                    continue
                self.assertIsInstance(node, (ast.ImportFrom, ast.FunctionDef, ast.ClassDef, ast.Assign), file)
                if isinstance(node, ast.Assign):
                    self.assertEqual(len(node.targets), 1)
                    self.assertFalse([part for part in ast.walk(node.value) if isinstance(part, ast.Call)], file)

    def test_decorators_and_classes(self):
        for file in FILES:
            for node in ast.walk(parsed(file)):
                if isinstance(node, ast.FunctionDef):
                    for decorator in node.decorator_list:
                        self.assertIn(decorator.id, ("property", "classmethod", "staticmethod"), file)
                if isinstance(node, ast.ClassDef):
                    self.assertEqual((node.decorator_list, node.keywords), ([], []))
                    methods = [part.name for part in node.body if isinstance(part, ast.FunctionDef)]
                    self.assertEqual(len(methods), len(set(methods)), file)
                    self.assertTrue("__getitem__" not in methods or "__iter__" in methods)

    def test_attributes_are_assigned_through_a_local_name(self):
        for file in FILES:
            for function in functions(parsed(file)):
                for node in ast.walk(function):
                    if isinstance(node, ast.Attribute) and isinstance(node.ctx, ast.Store):
                        self.assertIsInstance(node.value, ast.Name, (file, node.lineno))
                        self.assertIn(node.value.id, local_names(function), (file, node.lineno))

    def test_a_finally_only_puts_back(self):
        for file in FILES:
            for function in functions(parsed(file)):
                for node in ast.walk(function):
                    for line in node.finalbody if isinstance(node, ast.Try) else ():
                        self.assertIsInstance(line, ast.Assign, (file, line.lineno))
                        self.assertIsInstance(line.value, (ast.Name, ast.Attribute), (file, line.lineno))

    def test_raised_errors_are_made_on_the_spot(self):
        for file in FILES:
            for node in ast.walk(parsed(file)):
                if isinstance(node, ast.Raise) and node.exc is not None:
                    self.assertIsInstance(node.exc, ast.Call, (file, node.lineno))
                    self.assertIsInstance(node.exc.func, ast.Name, (file, node.lineno))


class Calls(unittest.TestCase):
    def test_calls_of_builtins_and_methods(self):
        own = {node.name for file in FILES for node in functions(parsed(file))}
        for file in FILES:
            for node in ast.walk(parsed(file)):
                if isinstance(node, ast.Call) and isinstance(node.func, ast.Attribute):
                    self.assertIn(node.func.attr, METHODS | own, (file, node.lineno))
                if isinstance(node, ast.Name) and node.id in dir(builtins):
                    self.assertIn(node.id, BUILTINS, (file, node.lineno))
                if isinstance(node, ast.Call) and isinstance(node.func, ast.Name):
                    self.check_call(file, node)

    def check_call(self, file, node):
        name = node.func.id
        if name in dir(builtins):
            words = {word.arg for word in node.keywords}
            allowed = {"sorted": {"key", "reverse"}, "min": {"key", "default"}, "max": {"key", "default"}, "sum": {"start"},
                       "enumerate": {"start"}}
            self.assertTrue(words <= allowed.get(name, set()), (file, node.lineno))
        if name == "reversed":
            inner = node.args[0]
            self.assertIsInstance(inner, ast.Call, (file, node.lineno))
            self.assertIn(inner.func.id, ("list", "tuple", "sorted", "range"), (file, node.lineno))

    def test_sets_are_not_iterated(self):
        for file in FILES:
            for node in ast.walk(parsed(file)):
                if isinstance(node, (ast.For, ast.comprehension)):
                    inner = node.iter
                    self.assertNotIsInstance(inner, (ast.Set, ast.SetComp), (file, inner.lineno))
                    if isinstance(inner, ast.Call) and isinstance(inner.func, ast.Name):
                        self.assertNotIn(inner.func.id, ("set", "frozenset"), (file, inner.lineno))

    def test_zips_and_their_kin_are_iterated_at_once(self):
        iterating = ("list", "tuple", "dict", "sorted", "sum", "any", "all", "enumerate", "zip", "min", "max", "reversed", "len")
        for file in FILES:
            tree = parsed(file)
            fine = []
            for node in ast.walk(tree):
                if isinstance(node, (ast.For, ast.comprehension)):
                    fine.append(node.iter)
                if isinstance(node, ast.Call) and isinstance(node.func, ast.Name) and node.func.id in iterating:
                    fine.extend(node.args)
                if isinstance(node, ast.Compare):
                    fine.extend(node.comparators)
            for node in ast.walk(tree):
                if isinstance(node, ast.Call) and isinstance(node.func, ast.Name):
                    if node.func.id in ("zip", "enumerate", "reversed", "range"):
                        self.assertTrue(any(node is part for part in fine), (file, node.lineno))

    def test_generators_are_iterated_at_once(self):
        names = set()
        for file in FILES:
            for function in functions(parsed(file)):
                if any(isinstance(node, (ast.Yield, ast.YieldFrom)) for node in ast.walk(function)):
                    self.assertNotIn(function.name, names)
                    names.add(function.name)
        for file in FILES:
            tree = parsed(file)
            fine = [node.iter for node in ast.walk(tree) if isinstance(node, (ast.For, ast.comprehension))]
            fine += [node.value for node in ast.walk(tree) if isinstance(node, ast.YieldFrom)]
            fine += [part for node in ast.walk(tree) if isinstance(node, ast.Call) for part in node.args]
            for node in ast.walk(tree):
                if isinstance(node, ast.Call) and isinstance(node.func, ast.Name) and node.func.id in names:
                    self.assertTrue(any(node is part for part in fine), (file, node.lineno))


class Loops(unittest.TestCase):
    def test_what_a_loop_walks_is_not_changed_in_it(self):
        for file in FILES:
            for function in functions(parsed(file)):
                self.assertEqual(changed_while_walked(function), [], (file, function.name))

    def test_the_check_finds_what_the_rule_bars(self):
        wrong = (
            "for x in xs:\n  xs.append(x)", "for x in enumerate(xs):\n  xs[0] = x", "for x in b.rows:\n  b.rows.pop()",
            "for x in (xs if c else ys):\n  ys.append(x)", "for x in xs or ys:\n  ys += [x]", "ys = xs\nfor x in xs:\n  ys.clear()",
            "while True:\n  ys = []\n  for x in xs:\n    ys.extend(x)\n  xs = ys", "for x in xs[0]:\n  xs[0].append(x)",
            "out = [ys.append(x) for x in ys]", "for x in xs:\n  del xs[0]", "for x in reversed(xs):\n  if x:\n    xs.remove(x)",
        )
        right = (
            "for x in list(xs):\n  xs.append(x)", "for x in xs:\n  ys.append(x)", "for x in sorted(xs):\n  xs.pop()",
            "for x in b.rows:\n  c.lines.append(x)", "ys = list(xs)\nfor x in xs:\n  ys.append(x)", "for x in range(len(xs)):\n  xs[x] = 0",
        )
        for text in wrong + right:
            lines = "".join(f"  {line}\n" for line in text.splitlines())
            function = ast.parse("def f(xs, ys, b, c):\n" + lines).body[0]
            self.assertEqual(bool(changed_while_walked(function)), text in wrong, text)


CHANGING = set("append clear extend insert pop remove reverse setdefault update sort add discard".split())
PASSING_ON = ("enumerate", "zip", "reversed")


def walked(node):
    """What a loop walks, as it is written: names, attributes and items, not what a call makes anew."""
    if isinstance(node, ast.IfExp):
        return walked(node.body) + walked(node.orelse)
    if isinstance(node, ast.BoolOp):
        return [part for value in node.values for part in walked(value)]
    if isinstance(node, ast.Call) and isinstance(node.func, ast.Name) and node.func.id in PASSING_ON:
        return [part for value in node.args for part in walked(value)]
    if isinstance(node, ast.Call) and isinstance(node.func, ast.Attribute) and node.func.attr in ("items", "keys", "values"):
        return walked(node.func.value)
    return [node] if isinstance(node, (ast.Name, ast.Attribute, ast.Subscript)) else []


def names_of_one_list(function):
    """For each name the set of the names that are given the very same value somewhere in the function."""
    groups = {}
    for node in ast.walk(function):
        if isinstance(node, ast.Assign):
            for target in node.targets:
                for part in walked(node.value):
                    if isinstance(target, ast.Name) and isinstance(part, ast.Name):
                        joined = groups.get(target.id, {target.id}) | groups.get(part.id, {part.id})
                        groups.update({name: joined for name in joined})
    return groups


def changed_parts(nodes):
    """What some statements change: the lists that are told by a call, an item, `del` or a sign."""
    found = []
    for node in [part for node in nodes for part in ast.walk(node)]:
        if isinstance(node, ast.Call) and isinstance(node.func, ast.Attribute) and node.func.attr in CHANGING:
            found.append(node.func.value)
        if isinstance(node, ast.Subscript) and isinstance(node.ctx, (ast.Store, ast.Del)):
            found.append(node.value)
        if isinstance(node, ast.AugAssign):
            found.append(node.target)
    return found


def changed_while_walked(function):
    """The lines of loops that change what they walk, by its name, by another name of it, by a field or an item."""
    groups = names_of_one_list(function)

    def told(node):
        if isinstance(node, ast.Name):
            return groups.get(node.id, {node.id})
        # An attribute of that name of another object counts, too.
        return {"." + node.attr} if isinstance(node, ast.Attribute) else {ast.unparse(node)}

    found = []
    for node in ast.walk(function):
        loops = [(node.iter, node.body)] if isinstance(node, ast.For) else []
        if isinstance(node, (ast.ListComp, ast.SetComp, ast.DictComp)):
            loops = [(line.iter, [node]) for line in node.generators]
        for iterated, body in loops:
            held = [name for part in walked(iterated) for name in told(part)]
            changed = [name for part in changed_parts(body) for name in told(part)]
            found.extend(node.lineno for name in held if name in changed)
    return found


if __name__ == "__main__":
    unittest.main()
