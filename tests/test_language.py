"""Those rules of LANGUAGE.md that are easily broken by oversight, checked over the text of the package."""

import ast
import builtins
import pathlib
import re
import unittest

PACKAGE = pathlib.Path(__file__).resolve().parent.parent / "onlyheard"
FILES = sorted(path for path in PACKAGE.rglob("*") if path.is_file() and "__pycache__" not in path.parts)
LIBRARY = ("heapq", "math", "itertools", "collections")
BUILTINS = (
    "len range enumerate zip min max sum abs sorted reversed int str bool bytes list tuple dict set frozenset "
    "isinstance ord repr any all divmod pow getattr hasattr setattr iter next map Exception ValueError TypeError "
    "KeyError IndexError LookupError ZeroDivisionError ArithmeticError OverflowError RuntimeError "
    "NotImplementedError AttributeError StopIteration NotImplemented property"
).split()
METHODS = (
    "append clear copy count endswith extend find get index insert isalnum isalpha isdigit islower isspace isupper "
    "items join keys ljust lower lstrip partition pop remove replace reverse rfind rjust rpartition rsplit rstrip "
    "setdefault split splitlines startswith strip update upper values zfill bit_length add discard"
).split()
BARRED_WORDS = (
    "typing typing_extensions enum Enum IntEnum StrEnum Flag IntFlag Generic Protocol ABC ABCMeta namedtuple "
    "NamedTuple TypedDict TYPE_CHECKING abstractmethod dataclass overload contextmanager register mro elements input "
    "law version_info with_traceback add_note"
).split()
# The names that L12 bars: the first two lines by how they begin, the last one whole. L12 would let an attribute begin
# with the first of them; here it may not, so that a look at the words alone is enough.
BARRED_NAME = re.compile(
    r"_(wall|WallAttr|sre)\w*"
    r"|_(pe|dcw|enum|cm|twin_re|lay|law|stub)_\w*"
    r"|_(cold|tuplegetter|outside|record|written_out|member_names)[0-9_]*"
)
PLAIN_NAME = re.compile(r"_|_?[A-Za-z][A-Za-z0-9_]*|__[a-z]+__")
BARRED_NODES = (ast.GeneratorExp, ast.AsyncFunctionDef, ast.AsyncFor, ast.AsyncWith, ast.Await, ast.Div)


def trees():
    return [(path, ast.parse(path.read_text())) for path in FILES]


def nodes(*kinds):
    return [(path.name, node) for path, tree in trees() for node in ast.walk(tree) if isinstance(node, kinds)]


def barred_names(text):
    """The words of a text, its strings and comments included, that are names which L12 bars."""
    return [word for word in re.findall(r"\w+", text) if BARRED_NAME.fullmatch(word)]


def names_of(node):
    """The names that a node of a tree tells by itself."""
    told = [getattr(node, field, None) for field in ("id", "arg", "attr", "name", "asname", "rest")]
    return [name for name in told + getattr(node, "names", []) if isinstance(name, str)]


class Files(unittest.TestCase):
    def test_only_python_files_with_plain_names(self):
        self.assertIn(PACKAGE / "__init__.py", FILES)
        for path in FILES:
            self.assertRegex(path.name, r"^[a-z0-9_]+\.py$")

    def test_sizes_and_signs(self):
        for path in FILES:
            lines = path.read_text().split("\n")
            self.assertLessEqual(len(lines) - 1, 399, path)
            for line in lines:
                self.assertLessEqual(len(line), 120, path)
                self.assertTrue(all(" " <= sign <= "~" for sign in line), path)

    def test_functions_have_at_most_forty_lines(self):
        for name, node in nodes(ast.FunctionDef):
            self.assertLessEqual(node.end_lineno - node.lineno + 1, 40, (name, node.name))

    def test_every_function_and_class_of_the_interface_has_a_docstring(self):
        for name, node in nodes(ast.FunctionDef, ast.ClassDef, ast.Module):
            if not getattr(node, "name", "").startswith("_"):
                self.assertIsNotNone(ast.get_docstring(node), (name, getattr(node, "name", "")))


class Words(unittest.TestCase):
    def test_imports(self):
        for name, node in nodes(ast.Import, ast.ImportFrom):
            self.assertIsInstance(node, ast.ImportFrom, name)
            self.assertEqual(node.level, 0, name)
            self.assertTrue(node.module in LIBRARY or node.module.startswith("onlyheard."), (name, node.module))
            self.assertTrue(all(alias.name != "*" and alias.asname is None for alias in node.names), name)

    def test_each_import_names_the_file_that_defines_the_name(self):
        defined = {}
        for path, tree in trees():
            for node in tree.body:
                targets = [node.name] if hasattr(node, "name") else [t.id for t in getattr(node, "targets", [])]
                defined.setdefault(f"onlyheard.{path.stem}", set()).update(targets)
        for name, node in nodes(ast.ImportFrom):
            if node.module not in LIBRARY:
                for alias in node.names:
                    self.assertIn(alias.name, defined[node.module], name)

    def test_no_two_files_import_from_each_other(self):
        needs = {f"onlyheard.{path.stem}": set() for path in FILES}
        for name, node in nodes(ast.ImportFrom):
            needs["onlyheard." + name[:-3]].add(node.module)
        while needs:
            free = [name for name in needs if not needs[name] & set(needs)]
            self.assertNotEqual(free, [], needs)
            for name in free:
                del needs[name]

    def test_builtins(self):
        known = set(dir(builtins))
        for name, node in nodes(ast.Name):
            if isinstance(node.ctx, ast.Load):
                self.assertTrue(node.id not in known or node.id in BUILTINS, (name, node.id))
            else:
                self.assertNotIn(node.id, known, name)
        for name, node in nodes(ast.arg):
            self.assertNotIn(node.arg, known, name)

    def test_methods(self):
        own = {node.name for _, node in nodes(ast.FunctionDef)}
        for name, node in nodes(ast.Call):
            if isinstance(node.func, ast.Attribute):
                self.assertIn(node.func.attr, set(METHODS) | own, name)

    def test_barred_words(self):
        for path in FILES:
            names = {node.id for node in ast.walk(ast.parse(path.read_text())) if isinstance(node, ast.Name)}
            self.assertEqual(names & set(BARRED_WORDS), set(), path)

    def test_barred_names(self):
        for path in FILES:
            self.assertEqual(barred_names(path.read_text()), [], path)

    def test_barred_names_are_found_wherever_they_stand(self):
        for name in (
            "_cold _tuplegetter _outside _record _written_out _member_names _outside2 _cold_ _record_1_ _wall _walls "
            "_WallAttr _WallAttrs _pe_a _dcw_a _enum_ _cm_a _twin_re_a _lay_a _law_a _stub_a _sre _sres"
        ).split():
            texts = (f"def {name}(a):", f"b = self.{name}(a)", f"[{name}]", f"# {name}.", f'c = "{name}"', f"{name}\n")
            for text in texts:
                self.assertEqual(barred_names(text), [name], text)

    def test_names_that_are_like_barred_ones_are_none(self):
        for name in (
            "outside _outsider _outside_of _outside_2a far_outside _colder _records _written _member_name walls "
            "left_wall WallAttr _pe _enum _law _laws _lays sre"
        ).split():
            self.assertEqual(barred_names(f"def {name}(a): return {name}(a)"), [], name)

    def test_names_are_plain(self):
        for name, node in nodes(ast.AST):
            for word in names_of(node):
                for part in word.split("."):
                    self.assertTrue(PLAIN_NAME.fullmatch(part), (name, word))
            if isinstance(node, ast.ClassDef):
                self.assertFalse(node.name.startswith("_"), (name, node.name))
            if isinstance(node, ast.Name) and node.id == "_":
                self.assertIsInstance(node.ctx, ast.Store, (name, node.lineno))

    def test_barred_nodes(self):
        self.assertEqual(nodes(*BARRED_NODES), [])

    def test_no_decorators_but_properties(self):
        for name, node in nodes(ast.FunctionDef, ast.ClassDef):
            for decorator in node.decorator_list:
                self.assertEqual(ast.unparse(decorator), "property", (name, node.name))

    def test_locals_do_not_have_the_name_of_a_function_a_class_or_an_import_of_their_file(self):
        for path, tree in trees():
            taken = {node.name for node in tree.body if isinstance(node, (ast.FunctionDef, ast.ClassDef))}
            taken |= {alias.name for node in tree.body if isinstance(node, ast.ImportFrom) for alias in node.names}
            for node in ast.walk(tree):
                if isinstance(node, ast.arg):
                    self.assertNotIn(node.arg, taken, path)
                if isinstance(node, ast.Name) and isinstance(node.ctx, ast.Store):
                    self.assertNotIn(node.id, taken, path)

    def test_methods_and_attributes_of_a_class_have_unlike_names(self):
        for name, node in nodes(ast.ClassDef):
            methods = {item.name for item in node.body if isinstance(item, ast.FunctionDef)}
            attributes = [sub for sub in ast.walk(node) if isinstance(sub, ast.Attribute)]
            stored = {sub.attr for sub in attributes if isinstance(sub.ctx, ast.Store)}
            self.assertEqual(methods & stored, set(), (name, node.name))

    def test_no_default_values_but_plain_ones(self):
        for name, node in nodes(ast.FunctionDef):
            for value in node.args.defaults:
                self.assertIsInstance(value, (ast.Constant, ast.Name, ast.Tuple), name)


if __name__ == "__main__":
    unittest.main()
