"""The form of the package's own files, as far as a plain look at them can tell: the rules L1 to L28."""

import ast
import builtins
import pathlib
import re
import unittest

PACKAGE = pathlib.Path(__file__).resolve().parent.parent / "kinnames"

OWN_NAMES = set(
    "len range enumerate zip min max sum abs sorted reversed int str bool list tuple dict set frozenset isinstance "
    "ord repr any all divmod Exception ValueError TypeError KeyError IndexError LookupError ZeroDivisionError "
    "ArithmeticError OverflowError RuntimeError NotImplementedError AttributeError StopIteration".split()
)

OWN_METHODS = set(
    "append clear copy count endswith extend find get index insert isalnum isalpha isdigit islower isspace isupper "
    "items join keys ljust lower lstrip partition pop remove replace reverse rfind rjust rpartition rsplit rstrip "
    "setdefault split splitlines startswith strip update upper values zfill bit_length".split()
)

LEFT_OUT_WORDS = re.compile(
    r"\b(type|typing|typing_extensions|enum|Enum|IntEnum|StrEnum|Flag|IntFlag|Generic|Protocol|ABC|ABCMeta|namedtuple"
    r"|NamedTuple|TypedDict|TYPE_CHECKING|abstractmethod)\b|dataclass|overload|contextmanager"
)

LEFT_OUT_FORMS = (
    ast.With, ast.Match, ast.Delete, ast.Global, ast.Nonlocal, ast.Assert, ast.Yield, ast.YieldFrom, ast.Await,
    ast.AsyncFunctionDef, ast.AsyncFor, ast.AsyncWith, ast.Import, ast.AnnAssign, ast.SetComp, ast.DictComp,
    ast.GeneratorExp, ast.NamedExpr, ast.Starred, ast.Div, ast.Set,
)

WALKED_AT_ONCE = {"zip", "enumerate", "reversed", "range", "items", "keys", "values"}
WALKERS = {"list", "tuple", "dict", "sorted", "sum", "any", "all", "enumerate", "zip", "min", "max"}


def files():
    return sorted(path for path in PACKAGE.rglob("*") if path.is_file() and "__pycache__" not in path.parts)


def nodes(kind):
    for path in files():
        for node in ast.walk(ast.parse(path.read_text(encoding="utf-8"))):
            if isinstance(node, kind):
                yield path.name, node


def called_word(node):
    return getattr(node.func, "id", getattr(node.func, "attr", None))


def bound_names(tree):
    for node in ast.walk(tree):
        if isinstance(node, ast.Name) and not isinstance(node.ctx, ast.Load):
            yield node.id
        elif isinstance(node, ast.arg):
            yield node.arg
        elif isinstance(node, (ast.FunctionDef, ast.ClassDef)):
            yield node.name


class Files(unittest.TestCase):
    def test_plain_files_alone(self):
        self.assertTrue(files())
        for path in files():
            self.assertRegex(path.name, r"\A([a-z][a-z0-9_]*|__init__|__main__)\.py\Z")

    def test_signs_and_sizes(self):
        for path in files():
            text = path.read_text(encoding="utf-8")
            self.assertRegex(text, r"\A[ -~\n]*\Z", path.name)
            rows = text.split("\n")
            self.assertLessEqual(len(rows), 401, path.name)
            self.assertLessEqual(max(len(row) for row in rows), 120, path.name)
        for name, node in nodes(ast.FunctionDef):
            self.assertLessEqual(node.end_lineno - node.lineno + 1, 40, (name, node.name))

    def test_no_word_that_is_left_out(self):
        for path in files():
            self.assertIsNone(LEFT_OUT_WORDS.search(path.read_text(encoding="utf-8")), path.name)


class Forms(unittest.TestCase):
    def test_no_form_that_is_left_out(self):
        for name, node in nodes(LEFT_OUT_FORMS):
            self.fail(f"{name}, row {node.lineno}: {type(node).__name__}")

    def test_one_target_and_no_decorator(self):
        for name, node in nodes(ast.Assign):
            self.assertEqual(len(node.targets), 1, (name, node.lineno))
        for name, node in nodes((ast.FunctionDef, ast.ClassDef)):
            self.assertEqual(node.decorator_list, [], (name, node.lineno))
        for name, node in nodes((ast.For, ast.While)):
            self.assertEqual(node.orelse, [], (name, node.lineno))

    def test_plain_values(self):
        for name, node in nodes(ast.Constant):
            self.assertIn(type(node.value), (int, str, bool, type(None)), (name, node.lineno))
            self.assertNotIn("%", str(node.value), (name, node.lineno))

    def test_written_exponents_alone(self):
        for name, node in nodes(ast.BinOp):
            if isinstance(node.op, ast.Pow):
                self.assertIsInstance(node.right, ast.Constant, (name, node.lineno))
                self.assertIn(node.right.value, range(65), (name, node.lineno))

    def test_is_beside_none_and_truths_alone(self):
        for name, node in nodes(ast.Compare):
            for sign, right in zip(node.ops, node.comparators):
                if isinstance(sign, (ast.Is, ast.IsNot)):
                    self.assertIsInstance(right, ast.Constant, (name, node.lineno))

    def test_imports_from_the_very_file_that_defines_the_name(self):
        for name, node in nodes(ast.ImportFrom):
            self.assertEqual(node.level, 0, (name, node.lineno))
            self.assertRegex(node.module, r"\Akinnames\.[a-z_]+\Z")
            source = (PACKAGE / (node.module.split(".")[1] + ".py")).read_text(encoding="utf-8")
            for alias in node.names:
                self.assertIn(alias.name, set(bound_names(ast.parse(source))), (name, node.lineno))


class Classes(unittest.TestCase):
    def methods(self):
        return {part.name for name, node in nodes(ast.ClassDef) for part in node.body if hasattr(part, "name")}

    def values(self):
        return {node.attr for name, node in nodes(ast.Attribute) if isinstance(node.ctx, ast.Store)}

    def test_methods_alone_in_a_class_and_none_twice(self):
        for name, node in nodes(ast.ClassDef):
            self.assertLessEqual(len(node.bases), 1, (name, node.lineno))
            parts = [part for part in node.body if not isinstance(part, (ast.Expr, ast.Pass))]
            self.assertTrue(all(isinstance(part, ast.FunctionDef) for part in parts), (name, node.lineno))
            self.assertEqual(len({part.name for part in parts}), len(parts), (name, node.lineno))

    def test_no_name_is_a_method_and_a_value(self):
        self.assertEqual(self.methods() & self.values(), set())

    def test_values_are_not_called_like_those_of_pythons_own(self):
        kinds = (str, int, list, tuple, dict, set, bytes)
        taken = {word for kind in kinds for word in dir(kind)} | {"args", "mro"}
        free = set("count index title find get join lower upper split strip copy add".split())
        self.assertEqual(self.values() & (taken - free), set())
        self.assertEqual(self.methods() & (taken - OWN_METHODS - {"add", "discard", "__init__"}), set())

    def test_methods_are_called_where_they_stand(self):
        called = {id(node.func) for name, node in self.kept(ast.Call)}
        for name, node in self.kept(ast.Attribute):
            if node.attr in self.methods() | OWN_METHODS and node.attr not in self.values():
                self.assertIn(id(node), called, (name, node.lineno))

    def kept(self, kind):
        """As nodes, but the same ones each time, so that they can be told from one another."""
        if not hasattr(self, "trees"):
            self.trees = [(path.name, ast.parse(path.read_text(encoding="utf-8"))) for path in files()]
        return [(name, node) for name, tree in self.trees for node in ast.walk(tree) if isinstance(node, kind)]


class NamesInUse(unittest.TestCase):
    def test_names_of_pythons_own(self):
        for name, node in nodes(ast.Name):
            if hasattr(builtins, node.id):
                self.assertIn(node.id, OWN_NAMES, (name, node.lineno))

    def test_plain_names(self):
        for path in files():
            for bound in bound_names(ast.parse(path.read_text(encoding="utf-8"))):
                self.assertRegex(bound, r"\A([A-Za-z][A-Za-z0-9_]*|__(init|eq|repr|str|len)__)\Z", path.name)

    def test_no_local_is_called_like_an_import_or_what_stands_at_the_top(self):
        for path in files():
            tree = ast.parse(path.read_text(encoding="utf-8"))
            top = {node.name for node in tree.body if isinstance(node, (ast.FunctionDef, ast.ClassDef))}
            for node in tree.body:
                if isinstance(node, ast.ImportFrom):
                    top.update(alias.asname or alias.name for alias in node.names)
            for node in ast.walk(tree):
                local = node.arg if isinstance(node, ast.arg) else None
                if isinstance(node, ast.Name) and isinstance(node.ctx, ast.Store):
                    local = node.id
                self.assertNotIn(local, top, path.name)
                self.assertFalse(local is not None and hasattr(builtins, local), (path.name, local))

    def test_methods_of_pythons_own_values(self):
        own = {part.name for name, node in nodes(ast.ClassDef) for part in node.body if hasattr(part, "name")}
        for name, node in nodes(ast.Call):
            if isinstance(node.func, ast.Attribute):
                self.assertIn(node.func.attr, OWN_METHODS | own, (name, node.lineno))

    def test_what_is_walked_at_once_stands_where_it_is_walked(self):
        for path in files():
            tree = ast.parse(path.read_text(encoding="utf-8"))
            walked = [node.iter for node in ast.walk(tree) if isinstance(node, (ast.For, ast.comprehension))]
            for node in ast.walk(tree):
                if isinstance(node, ast.Call) and getattr(node.func, "id", None) in WALKERS:
                    walked.extend(node.args if node.func.id == "zip" else node.args[:1])
            for node in ast.walk(tree):
                if isinstance(node, ast.Call) and called_word(node) in WALKED_AT_ONCE:
                    self.assertIn(node, walked, (path.name, node.lineno))

    def test_a_set_stands_on_the_spot_alone(self):
        for path in files():
            tree = ast.parse(path.read_text(encoding="utf-8"))
            spots = [part for node in ast.walk(tree) if isinstance(node, ast.Compare) for part in ast.walk(node)]
            for node in ast.walk(tree):
                if isinstance(node, ast.Call) and getattr(node.func, "id", None) in ("sorted", "len"):
                    spots.extend(part for argument in node.args for part in ast.walk(argument))
            for node in ast.walk(tree):
                if isinstance(node, ast.Call) and getattr(node.func, "id", None) in ("set", "frozenset"):
                    self.assertIn(node, spots, (path.name, node.lineno))

    def test_each_name_once_at_the_top(self):
        for path in files():
            bound = []
            for node in ast.parse(path.read_text(encoding="utf-8")).body:
                if isinstance(node, ast.ImportFrom):
                    bound.extend(alias.asname or alias.name for alias in node.names)
                elif isinstance(node, (ast.FunctionDef, ast.ClassDef)):
                    bound.append(node.name)
                elif isinstance(node, ast.Assign):
                    bound.append(node.targets[0].id)
            self.assertEqual(sorted(set(bound)), sorted(bound), path.name)

    def test_no_two_files_draw_from_one_another(self):
        drawn = {}
        for name, node in nodes(ast.ImportFrom):
            drawn.setdefault(name, set()).add(node.module.split(".")[1] + ".py")
        for start in drawn:
            reached = sorted(drawn[start])
            for name in reached:
                reached.extend(other for other in sorted(drawn.get(name, ())) if other not in reached)
            self.assertNotIn(start, reached)

    def test_what_is_walked_at_once_is_not_kept(self):
        for name, node in nodes(ast.Assign):
            if isinstance(node.value, ast.Call):
                self.assertNotIn(called_word(node.value), WALKED_AT_ONCE, (name, node.lineno))


if __name__ == "__main__":
    unittest.main()
