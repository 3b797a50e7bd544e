"""The rules of LANGUAGE.md that a look at the files can decide: sizes, names, imports and words."""

import ast
import pathlib
import re
import unittest

FOLDER = pathlib.Path(__file__).resolve().parent.parent / "claimclasses"
FILES = sorted(FOLDER.glob("*.py"))
TREES = {path.stem: ast.parse(path.read_text(encoding="utf-8")) for path in FILES}

BUILTINS = set("""len range enumerate zip min max sum abs sorted reversed int str bool bytes list tuple dict set frozenset
    isinstance ord repr any all divmod iter next super property staticmethod classmethod Exception ValueError TypeError
    KeyError IndexError LookupError ZeroDivisionError ArithmeticError OverflowError RuntimeError NotImplementedError
    AttributeError StopIteration NotImplemented""".split())
BARRED = """type typing typing_extensions enum Enum IntEnum StrEnum Flag IntFlag Generic Protocol ABC ABCMeta namedtuple
    NamedTuple TypedDict TYPE_CHECKING abstractmethod""".split()
UNUSED = set("""register mro elements open input law version_info with_traceback add_note attrgetter breakpoint builtins
    compile copyright credits delattr dir eval exec exit gc getattr globals hasattr help id importlib license locals
    methodcaller os quit setattr type vars sys""".split())


def nodes(*kinds):
    return [(stem, node) for stem, tree in TREES.items() for node in ast.walk(tree) if isinstance(node, kinds)]


def defined(tree):
    """The names that a file binds by itself, without its imports."""
    for node in tree.body:
        if isinstance(node, (ast.FunctionDef, ast.ClassDef)):
            yield node.name
        elif isinstance(node, ast.Assign):
            yield from [target.id for target in node.targets if isinstance(target, ast.Name)]


def bound(tree):
    """The names that are bound anywhere in a file."""
    names = set()
    for node in ast.walk(tree):
        if isinstance(node, ast.Name) and not isinstance(node.ctx, ast.Load):
            names.add(node.id)
        elif isinstance(node, ast.arg):
            names.add(node.arg)
        elif isinstance(node, (ast.FunctionDef, ast.ClassDef, ast.ExceptHandler, ast.MatchAs, ast.MatchStar)):
            names.add(node.name)
        elif isinstance(node, ast.alias):
            names.add(node.asname or node.name)
    return names


def imported(tree):
    """The names that a file imports from the package, each with the name of its file."""
    return {name.name: node.module.partition(".")[2] for node in tree.body
            if isinstance(node, ast.ImportFrom) and node.module != "__future__" for name in node.names}


def parents():
    """Each node beside the node in which it stands."""
    return [(stem, child, node) for stem, tree in TREES.items() for node in ast.walk(tree)
            for child in ast.iter_child_nodes(node)]


def called(node):
    """The name of the function that is called, or else an empty string."""
    return node.func.id if isinstance(node, ast.Call) and isinstance(node.func, ast.Name) else ""


class FilesTest(unittest.TestCase):

    def test_the_folder_contains_only_files_with_plain_names(self):
        for path in FOLDER.iterdir():
            if path.name != "__pycache__":
                self.assertRegex(path.name, r"^(__init__|__main__|[a-z][a-z0-9_]*)\.py$")

    def test_sizes_and_characters(self):
        for path in FILES:
            lines = path.read_bytes().decode("ascii").split("\n")
            self.assertLessEqual(len(lines) - 1, 399, path.name)
            for line in lines:
                self.assertRegex(line, r"^[ -~]{0,120}$", path.name)

    def test_sizes_of_functions(self):
        for stem, node in nodes(ast.FunctionDef):
            self.assertLessEqual(node.end_lineno - node.lineno + 1, 40, f"{stem}.{node.name}")

    def test_words_that_do_not_occur(self):
        for path in FILES:
            text = path.read_text(encoding="ascii")
            self.assertIsNone(re.search(r"\b(" + "|".join(BARRED) + r")\b", text), path.name)
            self.assertIsNone(re.search("dataclass|overload|contextmanager", text), path.name)


class NamesTest(unittest.TestCase):

    def test_imports_name_the_file_that_defines_the_name(self):
        for stem, node in nodes(ast.Import, ast.ImportFrom):
            if isinstance(node, ast.Import):
                self.assertEqual((stem, [name.name for name in node.names]), ("__main__", ["sys"]))
            elif node.module != "__future__":
                package, _, module = node.module.partition(".")
                self.assertEqual((package, node.level), ("claimclasses", 0), stem)
                self.assertLessEqual({name.name for name in node.names}, set(defined(TREES[module])), stem)

    def test_no_files_import_from_each_other(self):
        behind = {stem: {*imported(tree).values()} for stem, tree in TREES.items()}
        for _ in TREES:
            behind = {stem: further.union(*[behind[module] for module in further]) for stem, further in behind.items()}
        for stem, further in behind.items():
            self.assertNotIn(stem, further)

    def test_imports_and_classes_keep_their_names_to_themselves(self):
        for stem, tree in TREES.items():
            kept = {*imported(tree), *[node.name for node in tree.body if isinstance(node, ast.ClassDef)]}
            for node in ast.walk(tree):
                if isinstance(node, ast.arg):
                    self.assertNotIn(node.arg, kept, stem)
                elif isinstance(node, ast.Name) and not isinstance(node.ctx, ast.Load):
                    self.assertNotIn(node.id, kept, stem)

    def test_only_the_allowed_builtins_are_read(self):
        for stem, tree in TREES.items():
            allowed = BUILTINS | bound(tree) | {"__name__"}
            if stem == "__main__":
                allowed.add("print")
            read = {node.id for node in ast.walk(tree) if isinstance(node, ast.Name)}
            self.assertLessEqual(read, allowed, stem)

    def test_names_that_are_not_used(self):
        for stem, node in nodes(ast.FunctionDef, ast.ClassDef, ast.arg, ast.Name):
            name = getattr(node, "name", None) or getattr(node, "arg", None) or node.id
            self.assertNotIn(name, UNUSED - ({"sys"} if stem == "__main__" else set()), stem)
            self.assertTrue(not name.startswith("_") or re.fullmatch(r"__\w+__", name), f"{stem}.{name}")

    def test_no_name_is_a_method_and_an_attribute(self):
        methods = {item.name for _, node in nodes(ast.ClassDef) for item in node.body
                   if isinstance(item, ast.FunctionDef)}
        attributes = {node.attr for _, node in nodes(ast.Attribute) if isinstance(node.ctx, ast.Store)}
        properties = {item.name for _, node in nodes(ast.ClassDef) for item in node.body
                      if isinstance(item, ast.FunctionDef) and item.decorator_list}
        self.assertEqual((methods - properties) & attributes, set())


class ExpressionsTest(unittest.TestCase):

    def test_no_floats_no_division_and_no_percent_sign_in_strings(self):
        for stem, node in nodes(ast.Constant):
            self.assertNotIsInstance(node.value, (float, complex), stem)
            if isinstance(node.value, str):
                self.assertNotIn("%", node.value, stem)
        self.assertEqual(nodes(ast.Div), [])

    def test_statements_that_are_not_allowed(self):
        self.assertEqual(nodes(ast.Global, ast.AsyncFunctionDef, ast.AsyncFor, ast.AsyncWith, ast.Await), [])

    def test_is_stands_beside_none_true_and_false_only(self):
        for stem, node in nodes(ast.Compare):
            for sign, other in zip(node.ops, node.comparators):
                if isinstance(sign, (ast.Is, ast.IsNot)):
                    self.assertIn(ast.unparse(other), ("None", "True", "False"), stem)

    def test_no_generator_expressions(self):
        # The classes have operators, so sum, max and the like take lists.
        self.assertEqual(nodes(ast.GeneratorExp), [])

    def test_sets_stand_where_they_are_used(self):
        for stem, node, parent in parents():
            if isinstance(node, (ast.Set, ast.SetComp)) or called(node) in ("set", "frozenset"):
                self.assertTrue(isinstance(parent, ast.Compare) or called(parent) in ("sorted", "len"),
                                f"{stem}, line {node.lineno}")

    def test_what_is_iterated_at_once(self):
        for stem, node, parent in parents():
            method = node.func.attr if isinstance(node, ast.Call) and isinstance(node.func, ast.Attribute) else ""
            if called(node) in ("zip", "enumerate", "reversed", "range") or method in ("items", "keys", "values"):
                fitting = isinstance(parent, (ast.For, ast.comprehension)) or called(parent) in (
                    "list", "tuple", "dict", "sorted", "sum", "any", "all", "enumerate", "zip", "min", "max")
                # A range is the one of them that may be turned round or asked for its length.
                if called(node) == "range" and called(parent) in ("reversed", "len"):
                    fitting = True
                self.assertTrue(fitting, f"{stem}, line {node.lineno}")

    def test_what_is_turned_round(self):
        # Classes have items, so only what is plainly a list or a range is turned round.
        for stem, node in nodes(ast.Call):
            if called(node) == "reversed":
                self.assertIn(called(node.args[0]), ("list", "tuple", "sorted", "range"), f"{stem}, line {node.lineno}")

    def test_classes_with_items_are_not_gone_through(self):
        for stem, node in nodes(ast.ClassDef):
            methods = {item.name: item for item in node.body if isinstance(item, ast.FunctionDef)}
            if "__getitem__" in methods:
                self.assertIsInstance(methods["__iter__"].body[-1], ast.Raise, f"{stem}.{node.name}")

    def test_ends_of_blocks_only_give_back(self):
        for stem, node in nodes(ast.FunctionDef):
            if node.name == "__exit__":
                for row in node.body:
                    self.assertIsInstance(row, ast.Assign, f"{stem}, line {row.lineno}")
                    self.assertIsInstance(row.targets[0], ast.Attribute, f"{stem}, line {row.lineno}")
                    self.assertIsInstance(row.value, ast.Attribute, f"{stem}, line {row.lineno}")

    def test_no_loop_changes_what_it_goes_through(self):
        changing = ("append", "clear", "extend", "insert", "pop", "remove", "reverse", "setdefault", "update")
        for stem, loop in nodes(ast.For):
            gone = ast.unparse(loop.iter)
            for node in [inner for row in loop.body for inner in ast.walk(row)]:
                if isinstance(node, ast.Call) and isinstance(node.func, ast.Attribute) and node.func.attr in changing:
                    self.assertNotEqual(ast.unparse(node.func.value), gone, f"{stem}, line {node.lineno}")
                elif isinstance(node, ast.Subscript) and not isinstance(node.ctx, ast.Load):
                    self.assertNotEqual(ast.unparse(node.value), gone, f"{stem}, line {node.lineno}")

    def test_errors_are_created_where_they_are_raised(self):
        for stem, node in nodes(ast.Raise):
            self.assertTrue(node.exc is None or isinstance(node.exc, ast.Call), f"{stem}, line {node.lineno}")


if __name__ == "__main__":
    unittest.main()
