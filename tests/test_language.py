"""Holds the package against the rules of LANGUAGE.md that can be read off its files."""

import ast
import builtins
import pathlib
import re
import unittest

PACKAGE = pathlib.Path(__file__).resolve().parent.parent / "traitlattice"

OWN_NAMES = """len range enumerate zip min max sum abs sorted reversed int str bool list tuple dict set
    frozenset isinstance ord repr any all divmod Exception ValueError TypeError KeyError IndexError
    LookupError ZeroDivisionError ArithmeticError OverflowError RuntimeError NotImplementedError
    AttributeError StopIteration""".split()

OWN_METHODS = """append clear copy count endswith extend find get index insert isalnum isalpha isdigit
    islower isspace isupper items join keys ljust lower lstrip partition pop remove replace reverse rfind
    rjust rpartition rsplit rstrip setdefault split splitlines startswith strip update upper values zfill
    bit_length""".split()

FREE_VALUES = "count index title find get join lower upper split strip copy add".split()

SPECIAL_METHODS = ["__init__", "__eq__", "__repr__", "__str__", "__len__"]

ALLOWED_NODES = """Module Expr ImportFrom alias FunctionDef ClassDef Assign AugAssign Return If While For
    Break Continue Pass Raise Try ExceptHandler arguments arg Lambda Name Load Store Constant List Tuple
    Dict Set ListComp comprehension BinOp BoolOp UnaryOp Compare IfExp Call keyword Attribute Subscript
    Slice JoinedStr FormattedValue Add Sub Mult FloorDiv Mod Pow BitAnd BitOr BitXor LShift RShift Invert
    Not USub UAdd And Or Eq NotEq Lt LtE Gt GtE Is IsNot In NotIn""".split()

UNUSED_NAMES = """register mro elements open input version_info with_traceback add_note attrgetter
    breakpoint builtins compile delattr dir eval exec exit gc getattr globals hasattr help id importlib
    locals methodcaller os quit setattr super type vars sys""".split()

WALKED_AT_ONCE = ["zip", "enumerate", "reversed", "range", "items", "keys", "values"]
WALKERS = "list tuple dict sorted sum any all enumerate zip".split()
KEYWORDS = {
    "sorted": ["key", "reverse"],
    "min": ["key", "default"],
    "max": ["key", "default"],
    "sum": ["start"],
    "enumerate": ["start"],
    "zip": ["strict"],
}

UNUSED_WORDS = re.compile(
    r"\b(type|typing|typing_extensions|enum|Enum|IntEnum|StrEnum|Flag|IntFlag|Generic|Protocol|ABC|ABCMeta"
    r"|namedtuple|NamedTuple|TypedDict|TYPE_CHECKING|abstractmethod)\b|dataclass|overload|contextmanager"
)


def sources():
    return sorted(PACKAGE.glob("**/*.py"))


def tree_of(path):
    return ast.parse(path.read_text(encoding="utf-8"))


def nodes_of(kinds):
    """Pairs (place, node) of all nodes of some kinds in the package."""
    for path in sources():
        for node in ast.walk(tree_of(path)):
            if isinstance(node, kinds):
                yield f"{path.name}:{getattr(node, 'lineno', 0)}", node


def called(node):
    """The name that a call calls, by itself or behind a point; else an empty text."""
    if not isinstance(node, ast.Call):
        return ""
    return getattr(node.func, "id", getattr(node.func, "attr", ""))


def walked_places(node):
    """What stands within a node where it is walked on the spot."""
    if isinstance(node, (ast.For, ast.comprehension)):
        return [node.iter]
    if called(node) in WALKERS or called(node) in ("min", "max", "join") and len(node.args) == 1:
        return node.args[:1]
    return []


def defined_in(tree):
    names = []
    for node in tree.body:
        if isinstance(node, (ast.FunctionDef, ast.ClassDef)):
            names.append(node.name)
        elif isinstance(node, ast.Assign):
            names.append(node.targets[0].id)
    return names


def drawn_from(tree):
    return [node.module for node in tree.body if isinstance(node, ast.ImportFrom)]


class Files(unittest.TestCase):
    def test_files(self):
        self.assertTrue((PACKAGE / "__init__.py").is_file())
        for path in PACKAGE.iterdir():
            if path.name != "__pycache__":
                self.assertRegex(path.name, r"^(__init__|[a-z][a-z0-9_]*)\.py$")

    def test_signs_and_size(self):
        for path in sources():
            raw = path.read_bytes()
            self.assertTrue(all(sign == 10 or 32 <= sign <= 126 for sign in raw), path.name)
            lines = raw.decode("ascii").split("\n")
            self.assertLessEqual(len(lines), 400, path.name)
            self.assertLessEqual(max(len(line) for line in lines), 120, path.name)

    def test_functions_are_small(self):
        for place, node in nodes_of(ast.FunctionDef):
            self.assertLessEqual(node.end_lineno - node.lineno + 1, 40, place)

    def test_words_that_stand_nowhere(self):
        for path in sources():
            self.assertIsNone(UNUSED_WORDS.search(path.read_text(encoding="utf-8")), path.name)


class Imports(unittest.TestCase):
    def test_from_the_file_that_defines_the_name(self):
        for place, node in nodes_of(ast.ImportFrom):
            self.assertEqual(node.level, 0, place)
            package, _, module = node.module.partition(".")
            self.assertEqual(package, "traitlattice", place)
            names = defined_in(tree_of(PACKAGE / f"{module}.py"))
            for name in node.names:
                self.assertIn(name.name, names, place)

    def test_no_two_files_draw_from_one_another(self):
        drawn = {f"traitlattice.{path.stem}": drawn_from(tree_of(path)) for path in sources()}
        settled = []
        for _ in drawn:
            settled += [
                name
                for name in drawn
                if name not in settled and all(other in settled for other in drawn[name])
            ]
        self.assertEqual(sorted(settled), sorted(drawn))


class Forms(unittest.TestCase):
    def test_top_of_a_file(self):
        for path in sources():
            tree = tree_of(path)
            self.assertIsNotNone(ast.get_docstring(tree), path.name)
            for node in tree.body[1:]:
                kinds = (ast.ImportFrom, ast.FunctionDef, ast.ClassDef, ast.Assign)
                self.assertIsInstance(node, kinds, path.name)
            names = defined_in(tree)
            self.assertEqual(sorted(names), sorted(set(names)), path.name)

    def test_only_the_allowed_parts_of_the_language(self):
        for place, node in nodes_of(ast.AST):
            self.assertIn(node.__class__.__name__, ALLOWED_NODES, place)

    def test_defs(self):
        for place, node in nodes_of((ast.FunctionDef, ast.Lambda)):
            wanted = node.args
            self.assertIsNone(wanted.vararg, place)
            self.assertIsNone(wanted.kwarg, place)
            self.assertEqual(wanted.kwonlyargs + wanted.posonlyargs, [], place)
        for place, node in nodes_of((ast.FunctionDef, ast.ClassDef)):
            self.assertEqual(node.decorator_list, [], place)

    def test_classes(self):
        for place, node in nodes_of(ast.ClassDef):
            self.assertLessEqual(len(node.bases), 1, place)
            rest = node.body[1:] if ast.get_docstring(node) is not None else node.body
            for part in rest:
                self.assertIsInstance(part, (ast.FunctionDef, ast.Pass), place)

    def test_loops_and_tries(self):
        for place, node in nodes_of((ast.For, ast.While)):
            self.assertEqual(node.orelse, [], place)
        for place, node in nodes_of(ast.Try):
            self.assertEqual(node.finalbody, [], place)
        for place, node in nodes_of(ast.ExceptHandler):
            self.assertIsNotNone(node.type, place)
        for place, node in nodes_of(ast.Assign):
            self.assertEqual(len(node.targets), 1, place)
        for place, node in nodes_of(ast.ListComp):
            self.assertEqual(len(node.generators), 1, place)
            self.assertLessEqual(len(node.generators[0].ifs), 1, place)

    def test_values(self):
        for place, node in nodes_of(ast.Constant):
            self.assertIsInstance(node.value, (int, str, type(None)), place)
            if isinstance(node.value, str):
                self.assertNotIn("%", node.value, place)

    def test_what_is_walked_at_once(self):
        walked = [part for place, node in nodes_of(ast.AST) for part in walked_places(node)]
        spots = [(part.lineno, part.col_offset, ast.dump(part)) for part in walked]
        for place, node in nodes_of(ast.Call):
            if called(node) in WALKED_AT_ONCE:
                self.assertIn((node.lineno, node.col_offset, ast.dump(node)), spots, place)

    def test_keywords_of_pythons_own(self):
        for place, node in nodes_of(ast.Call):
            if called(node) in OWN_NAMES + OWN_METHODS:
                for keyword in node.keywords:
                    self.assertIn(keyword.arg, KEYWORDS.get(called(node), []), place)

    def test_powers_have_a_written_exponent(self):
        for place, node in nodes_of(ast.BinOp):
            if isinstance(node.op, ast.Pow):
                self.assertIsInstance(node.right, ast.Constant, place)
                self.assertLessEqual(node.right.value, 64, place)

    def test_is_stands_beside_none_true_and_false_alone(self):
        for place, node in nodes_of(ast.Compare):
            for sign, right in zip(node.ops, node.comparators):
                if isinstance(sign, (ast.Is, ast.IsNot)):
                    self.assertIsInstance(right, ast.Constant, place)
                    self.assertIsInstance(right.value, (bool, type(None)), place)


class Names(unittest.TestCase):
    def test_names(self):
        bound = [(place, node.id) for place, node in nodes_of(ast.Name)]
        bound += [(place, node.arg) for place, node in nodes_of(ast.arg)]
        bound += [(place, node.name) for place, node in nodes_of((ast.FunctionDef, ast.ClassDef))]
        bound += [(place, node.attr) for place, node in nodes_of(ast.Attribute)]
        for place, name in bound:
            if name not in SPECIAL_METHODS:
                self.assertRegex(name, r"^[A-Za-z][A-Za-z0-9_]*$", place)
                self.assertNotIn(name, UNUSED_NAMES, place)

    def test_only_the_allowed_names_of_python(self):
        for place, node in nodes_of(ast.Name):
            if isinstance(node.ctx, ast.Store):
                self.assertFalse(hasattr(builtins, node.id), f"{place} {node.id}")
            elif hasattr(builtins, node.id):
                self.assertIn(node.id, OWN_NAMES, place)
        for place, node in nodes_of(ast.arg):
            self.assertFalse(hasattr(builtins, node.arg), f"{place} {node.arg}")

    def test_only_the_allowed_methods_of_python(self):
        own = [node.name for place, node in nodes_of(ast.FunctionDef)]
        for place, node in nodes_of(ast.Call):
            if isinstance(node.func, ast.Attribute):
                self.assertIn(node.func.attr, OWN_METHODS + own + SPECIAL_METHODS, place)

    def test_no_name_is_a_method_here_and_a_value_there(self):
        methods = []
        for place, node in nodes_of(ast.ClassDef):
            methods += [part.name for part in node.body if isinstance(part, ast.FunctionDef)]
        for place, node in nodes_of(ast.Attribute):
            if isinstance(node.ctx, ast.Store):
                self.assertNotIn(node.attr, methods, place)

    def test_no_local_is_called_like_a_class_or_an_import_of_its_file(self):
        for path in sources():
            tree = tree_of(path)
            nodes = list(ast.walk(tree))
            taken = [node.name for node in nodes if isinstance(node, (ast.ClassDef, ast.alias))]
            names = [node.arg for node in nodes if isinstance(node, ast.arg)]
            names += [node.id for node in nodes if isinstance(node, ast.Name) and isinstance(node.ctx, ast.Store)]
            self.assertEqual(sorted(set(taken) & set(names)), [], path.name)

    def test_names_of_own_values_and_methods(self):
        kinds = (str, int, list, tuple, dict, set, bytes)
        taken = [name for kind in kinds for name in dir(kind) if name not in SPECIAL_METHODS]
        for place, node in nodes_of(ast.Attribute):
            if isinstance(node.ctx, ast.Store) and node.attr not in FREE_VALUES:
                self.assertNotIn(node.attr, taken, place)
        for place, node in nodes_of(ast.ClassDef):
            for part in node.body:
                if isinstance(part, ast.FunctionDef) and part.name not in OWN_METHODS + ["add", "discard"]:
                    self.assertNotIn(part.name, taken, place)


if __name__ == "__main__":
    unittest.main()
