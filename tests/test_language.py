"""The package keeps to the small language: what of its rules can be seen in the text of the files."""

import ast
import builtins
import pathlib
import unittest

FOLDER = pathlib.Path(__file__).resolve().parent.parent / "deedhouses"
BUILTINS = set(
    "len range enumerate zip min max sum abs sorted reversed int str bool list tuple dict set isinstance ord repr any all"
    " divmod ValueError KeyError True False None super property staticmethod classmethod".split()
)
METHODS = set(
    "append clear copy count endswith extend find get index insert isalnum isalpha isdigit islower isspace isupper items"
    " join keys ljust lower lstrip partition pop remove replace reverse rfind rjust rpartition rsplit rstrip setdefault"
    " split splitlines startswith strip update upper values zfill bit_length add discard".split()
)
NODES = (
    ast.Global, ast.AsyncFunctionDef, ast.Await, ast.Import, ast.Div, ast.Lambda, ast.SetComp, ast.Set, ast.GeneratorExp,
    ast.NamedExpr, ast.Match, ast.Yield, ast.YieldFrom, ast.Assert, ast.Delete, ast.Nonlocal,
    ast.JoinedStr, ast.AnnAssign,
)
BARRED = set(
    "register mro elements open input law version_info with_traceback add_note attrgetter breakpoint compile copyright dir"
    " eval exec exit gc getattr globals hasattr help id importlib license locals methodcaller os quit setattr type vars sys"
    .split()
)
WORDS = ("typing", "enum", "Enum", "Flag", "Generic", "Protocol", "ABC", "namedtuple", "type")
OUTSIDE = {"math": {"gcd", "lcm"}}


def files():
    return sorted(FOLDER.glob("*.py"))


def targets(node):
    """The plain names that a target binds."""
    return [each.id for each in ast.walk(node) if isinstance(each, ast.Name) and isinstance(each.ctx, ast.Store)]


def bound_names(function):
    """Parameters and local names of a function, those of comprehensions too."""
    spots = function.args
    names = [each.arg for each in [*spots.posonlyargs, *spots.args, *spots.kwonlyargs]]
    for node in ast.walk(function):
        if isinstance(node, ast.Name) and isinstance(node.ctx, ast.Store):
            names.append(node.id)
    return set(names)


def is_double(name):
    return name.startswith("__")


class LanguageTest(unittest.TestCase):
    def test_folder(self):
        names = [each.name for each in FOLDER.iterdir() if each.name != "__pycache__"]
        self.assertIn("__init__.py", names)
        for name in names:
            self.assertRegex(name, r"^[a-z_0-9]+\.py$")
            self.assertFalse(name != "__init__.py" and hasattr(builtins, name[:-3]), name)

    def test_sizes_and_signs(self):
        for file in files():
            text = file.read_text(encoding="utf-8")
            lines = text.split("\n")
            self.assertLessEqual(len(lines), 400, file)
            for line in lines:
                self.assertLessEqual(len(line), 120, (file, line))
            self.assertTrue(all(" " <= sign <= "~" or sign == "\n" for sign in text), file)
            for node in ast.walk(ast.parse(text)):
                if isinstance(node, ast.FunctionDef):
                    self.assertLessEqual(node.end_lineno - node.lineno + 1, 40, (file, node.name))
                    self.assertIsNotNone(ast.get_docstring(node) or is_double(node.name) or None, (file, node.name))

    def test_statements_and_values(self):
        for file in files():
            for node in ast.walk(ast.parse(file.read_text())):
                self.assertNotIsInstance(node, NODES, (file, getattr(node, "lineno", 0)))
                if isinstance(node, ast.Constant):
                    self.assertNotIsInstance(node.value, (float, complex), file)
                    if isinstance(node.value, str):
                        self.assertNotIn("%", node.value, file)
                if isinstance(node, ast.Try):
                    self.assertEqual([ast.unparse(each.type) for each in node.handlers], ["HouseError"], file)
                    self.assertFalse(node.finalbody or node.orelse, file)
                if isinstance(node, ast.With):
                    self.assertIsInstance(node.items[0].context_expr, ast.Call)
                if isinstance(node, ast.FunctionDef):
                    self.assertLessEqual({ast.unparse(each) for each in node.decorator_list}, {"property"}, file)
                    self.assertIsNone(node.args.vararg or node.args.kwarg, file)
                    self.assertEqual(node.args.defaults, [], file)
                if isinstance(node, ast.Call):
                    self.assertFalse([each for each in node.args if isinstance(each, ast.Starred)], file)
                    self.assertEqual(node.keywords, [], file)
                if isinstance(node, ast.BinOp) and isinstance(node.op, ast.Pow):
                    self.assertIn(getattr(node.right, "value", None), range(65), file)
                if isinstance(node, ast.Compare):
                    for sign, side in zip(node.ops, node.comparators):
                        if isinstance(sign, (ast.Is, ast.IsNot)):
                            self.assertIn(getattr(side, "value", 0), (None, True, False), file)

    def test_module_level(self):
        for file in files():
            tree = ast.parse(file.read_text())
            for node in tree.body:
                self.assertIsInstance(node, (ast.Expr, ast.ImportFrom, ast.FunctionDef, ast.ClassDef, ast.Assign), file)
                if isinstance(node, ast.Assign):
                    self.assertEqual(len(targets(node)), 1)
                    if isinstance(node.value, ast.Dict):
                        # A table of functions that are defined above it.
                        above = {each.name for each in tree.body if isinstance(each, ast.FunctionDef) and each.lineno < node.lineno}
                        self.assertLessEqual({ast.unparse(each) for each in node.value.values}, above, file)
                    else:
                        ast.literal_eval(node.value)
                if isinstance(node, ast.ClassDef):
                    self.assertLessEqual(len(node.bases), 1)

    def test_imports(self):
        leads = {}
        for file in files():
            tree = ast.parse(file.read_text())
            own, told = file.stem, []
            for node in tree.body:
                if isinstance(node, ast.ImportFrom):
                    self.assertEqual(node.level, 0)
                    for each in node.names:
                        self.assertIsNone(each.asname)
                        told.append(each.name)
                        if node.module in OUTSIDE:
                            self.assertIn(each.name, OUTSIDE[node.module])
                        else:
                            package, _, other = node.module.partition(".")
                            self.assertEqual(package, "deedhouses")
                            leads.setdefault(own, set()).add(other)
                            self.assertIn(each.name, self.defined(FOLDER / (other + ".py")), (file, each.name))
            used = {node.id for node in ast.walk(tree) if isinstance(node, ast.Name)}
            self.assertEqual(len(told), len(set(told)), file)
            self.assertLessEqual(set(told), used, file)
        for own in leads:
            self.assertNotIn(own, self.behind(leads, own))

    def defined(self, file):
        """What a file binds itself."""
        names = []
        for node in ast.parse(file.read_text()).body:
            if isinstance(node, (ast.FunctionDef, ast.ClassDef)):
                names.append(node.name)
            elif isinstance(node, ast.Assign):
                names.extend(targets(node))
        self.assertEqual(len(names), len(set(names)), file)
        return names

    def behind(self, leads, own):
        found, ahead = set(), list(leads.get(own, ()))
        while ahead:
            each = ahead.pop()
            if each not in found:
                found.add(each)
                ahead.extend(leads.get(each, ()))
        return found

    def test_names(self):
        for file in files():
            text = file.read_text()
            tree = ast.parse(text)
            taken = {each.name for node in tree.body if isinstance(node, ast.ImportFrom) for each in node.names}
            taken |= set(self.defined(file))
            for node in ast.walk(tree):
                if isinstance(node, ast.FunctionDef):
                    names = bound_names(node)
                    self.assertFalse(names & taken, (file, node.name, names & taken))
                    self.assertFalse(names & set(dir(builtins)), (file, node.name))
                    self.assertFalse((names | {node.name}) & BARRED, (file, node.name))
                    self.assertNotIn(node.name, dir(builtins))
            for word in WORDS:
                self.assertNotRegex(text, rf"\b{word}\b", file)
            for part in ("dataclass", "overload", "contextmanager"):
                self.assertNotIn(part, text, file)

    def test_calls(self):
        classes = [
            node for file in files() for node in ast.parse(file.read_text()).body if isinstance(node, ast.ClassDef)
        ]
        methods = {each.name for node in classes for each in node.body if isinstance(each, ast.FunctionDef)}
        methods = {name for name in methods if not is_double(name)}
        self.assertFalse(methods & {name for kind in (str, list, dict, tuple, set, int, bytes) for name in dir(kind)})
        stored = {
            node.attr for file in files() for node in ast.walk(ast.parse(file.read_text()))
            if isinstance(node, ast.Attribute) and isinstance(node.ctx, ast.Store)
        }
        self.assertFalse(methods & stored)
        for file in files():
            for node in ast.walk(ast.parse(file.read_text())):
                if isinstance(node, ast.Name) and hasattr(builtins, node.id):
                    self.assertIn(node.id, BUILTINS, file)
                if isinstance(node, ast.Call) and isinstance(node.func, ast.Attribute):
                    self.assertIn(node.func.attr, METHODS | methods, file)

    def test_what_ends_a_with_statement(self):
        for file in files():
            for node in ast.walk(ast.parse(file.read_text())):
                if isinstance(node, ast.FunctionDef) and is_double(node.name):
                    self.assertIn(node.name, ("__init__", "__len__", "__bool__", "__enter__", "__exit__"))
                    if node.name == "__exit__":
                        for inner in ast.walk(node):
                            self.assertNotIsInstance(inner, (ast.Call, ast.Return, ast.BinOp, ast.Subscript, ast.For), file)

    def test_nothing_iterated_is_kept(self):
        kept = {"zip", "enumerate", "reversed", "map", "iter"}
        for file in files():
            for node in ast.walk(ast.parse(file.read_text())):
                value = getattr(node, "value", None)
                if isinstance(node, (ast.Assign, ast.Return)) and isinstance(value, ast.Call):
                    self.assertNotIn(getattr(value.func, "id", ""), kept | {"range"}, file)

    def test_comprehensions_use_names_of_their_own(self):
        for file in files():
            for node in ast.walk(ast.parse(file.read_text())):
                if isinstance(node, (ast.ListComp, ast.DictComp)):
                    own = {name for each in node.generators for name in targets(each.target)}
                    for inner in ast.walk(node):
                        if isinstance(inner, (ast.ListComp, ast.DictComp)) and inner is not node:
                            other = {name for each in inner.generators for name in targets(each.target)}
                            self.assertFalse(own & other - {"_"}, (file, node.lineno))


if __name__ == "__main__":
    unittest.main()
