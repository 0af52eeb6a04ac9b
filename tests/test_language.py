"""That the files of the package keep to the rules of LANGUAGE.md, as far as a short look can see."""

import ast
import builtins
import os
import re
import unittest

PACKAGE = os.path.join(os.path.dirname(os.path.dirname(os.path.abspath(__file__))), "farapart")

BUILTINS = set("""len range enumerate zip min max sum abs sorted reversed int str bool bytes list tuple dict set frozenset
isinstance ord repr any all divmod pow map iter next getattr hasattr setattr type property staticmethod classmethod super
Exception ValueError TypeError KeyError IndexError LookupError ZeroDivisionError ArithmeticError OverflowError RuntimeError
NotImplementedError AttributeError StopIteration NotImplemented""".split())
DUNDERS = set("""__init__ __eq__ __repr__ __str__ __len__ __enter__ __exit__ __call__ __iter__ __lt__ __le__ __gt__ __ge__
__ne__ __add__ __sub__ __mul__ __and__ __or__ __xor__ __neg__ __bool__ __contains__ __getitem__ __setitem__""".split())
METHODS = set("""append clear copy count endswith extend find get index insert isalnum isalpha isdigit islower isspace isupper
items join keys ljust lower lstrip partition pop remove replace reverse rfind rjust rpartition rsplit rstrip setdefault split
splitlines startswith strip update upper values zfill bit_length add discard""".split())
BARRED = set("""register mro elements open input law version_info with_traceback add_note typing typing_extensions enum Enum
IntEnum StrEnum Flag IntFlag Generic Protocol ABC ABCMeta namedtuple NamedTuple TypedDict TYPE_CHECKING abstractmethod
_wall _WallAttr _cold _tuplegetter _outside _record _written_out _member_names global async await print""".split())
LISTED = {
    "errors": {"ApartError": []},
    "kinds": {name: None for name in ("is_integer", "is_name", "is_source", "is_kind", "fits")},
    "facts": {"Facts": "__init__ names greatest bounds keeps within start_with with_fact __and__ __eq__".split()},
    "statements": {name: None for name in ("is_statement", "frozen", "with_number", "sets", "reads", "numbers")},
    "procedures": {"Procedure": """__init__ params results size names uppers lowers ways out kind way with_way without_way
        with_number renamed __len__ __eq__""".split()},
    "programs": {"Program": """__init__ __getitem__ __contains__ __len__ __eq__ first names called reached rings
        with_procedure with_number renamed""".split()},
    "forms": {"Form": """begin itself __getitem__ __eq__ names kind after behind entered led numbers apart""".split()},
    "plays": {name: None for name in ("is_run", "is_moment", "steps_of", "form_at", "played", "moments", "shown")},
    "roads": {"Roads": """__init__ __len__ __eq__ put rows kind procedure wanted ends length form shows written""".split()},
    "walks": {name: None for name in ("heaviest", "walk", "ring")},
    "inner": {"Inner": "__init__ value rows ends".split()},
    "outer": {"Outer": "__init__ value rows comes".split()},
    "far": {name: None for name in ("far", "far_in", "known", "constant")},
    "tables": {name: None for name in ("table", "is_table", "loosest")},
    "reasons": {name: None for name in ("reason", "way_to", "is_reason")},
    "beyond": {name: None for name in ("beyond", "growth")},
    "claims": {name: None for name in ("is_claim", "holds", "broken", "counter")},
    "weakest": {name: None for name in ("weakest", "needed")},
    "slack": {"slack": None},
    "buffers": {name: None for name in ("ring_size", "lead")},
    "alike": {name: None for name in ("same_far", "parted", "idle_ways", "inlined")},
    "book": {"Book": """__init__ __len__ __eq__ program facts do back again past copied claims log broken weakest
        trial""".split()},
    "notation": {f"{word}_{thing}": None for word in ("show", "read")
                 for thing in ("statement", "procedure", "program", "facts", "claim", "deed")},
    "desk": {"Desk": "__init__ execute".split()},
}


def files():
    return sorted(name for name in os.listdir(PACKAGE) if name != "__pycache__")


def text_of(name):
    with open(os.path.join(PACKAGE, name), encoding="utf-8") as file:
        return file.read()


TREES = {name: ast.parse(text_of(name)) for name in files()}


def nodes(*kinds):
    for name, tree in TREES.items():
        for node in ast.walk(tree):
            if isinstance(node, kinds):
                yield name, node


def where(name, node):
    return f"{name}:{getattr(node, 'lineno', 0)}"


def defined(tree):
    return [node.name for node in tree.body if isinstance(node, (ast.FunctionDef, ast.ClassDef))]


def constants(tree):
    return [target.id for node in tree.body if isinstance(node, ast.Assign) for target in node.targets]


def is_plain(node, known):
    """Whether a value at module level is a plain one, or made of such and of functions that are known."""
    if isinstance(node, ast.Dict):
        return all(is_plain(item, known) for item in node.keys + node.values)
    if isinstance(node, (ast.List, ast.Tuple)):
        return all(is_plain(item, known) for item in node.elts)
    return isinstance(node, ast.Constant) or isinstance(node, ast.Name) and node.id in known


def own_errors():
    return {node.name for node in TREES["errors.py"].body if isinstance(node, ast.ClassDef)}


def methods_by_class():
    return {node.name: [item for item in node.body if isinstance(item, ast.FunctionDef)] for _, node in nodes(ast.ClassDef)}


def own_attributes():
    found = {node.name for _, node in nodes(ast.FunctionDef)}
    return found | {node.attr for _, node in nodes(ast.Attribute) if isinstance(node.ctx, ast.Store)}


class LanguageTest(unittest.TestCase):
    def test_files(self):
        for name in files():
            self.assertRegex(name, r"^[a-z_][a-z0-9_]*\.py$")
            text = text_of(name)
            self.assertTrue(all(sign == "\n" or " " <= sign <= "~" for sign in text), name)
            lines = text.split("\n")
            self.assertLessEqual(len(lines), 400, name)
            for at, line in enumerate(lines):
                self.assertLessEqual(len(line), 120, f"{name}:{at + 1}")

    def test_functions_are_short(self):
        for name, node in nodes(ast.FunctionDef):
            self.assertLessEqual(node.end_lineno - node.lineno + 1, 40, where(name, node))

    def test_module_level(self):
        for name, tree in TREES.items():
            bound = []
            for node in tree.body:
                docstring = isinstance(node, ast.Expr) and isinstance(node.value, ast.Constant)
                kinds = (ast.ImportFrom, ast.FunctionDef, ast.ClassDef, ast.Assign)
                self.assertTrue(docstring or isinstance(node, kinds), where(name, node))
                if isinstance(node, ast.Assign):
                    known = [item.name for item in tree.body if isinstance(item, ast.FunctionDef) and item.lineno < node.lineno]
                    self.assertTrue(is_plain(node.value, known), where(name, node))
                    bound += [target.id for target in node.targets]
                if isinstance(node, ast.ImportFrom):
                    bound += [alias.name for alias in node.names]
            bound += defined(tree)
            self.assertEqual(len(bound), len(set(bound)), name)

    def test_imports(self):
        reached = {}
        for name, node in nodes(ast.Import, ast.ImportFrom):
            self.assertIsInstance(node, ast.ImportFrom, where(name, node))
            self.assertEqual(node.level, 0)
            self.assertRegex(node.module, r"^farapart\.[a-z]+$")
            source = node.module.split(".")[1] + ".py"
            reached.setdefault(name, []).append(source)
            for alias in node.names:
                self.assertIsNone(alias.asname)
                self.assertIn(alias.name, defined(TREES[source]) + constants(TREES[source]), where(name, node))
        done = []
        for _ in TREES:
            done += [name for name in TREES if name not in done and all(other in done for other in reached.get(name, []))]
        self.assertEqual(sorted(done), files())

    def test_classes_and_decorators(self):
        for name, node in nodes(ast.FunctionDef):
            for decorator in node.decorator_list:
                self.assertIn(decorator.id, ("property", "staticmethod"), where(name, node))
            if node.name.startswith("__"):
                self.assertIn(node.name, DUNDERS, where(name, node))
            self.assertIsNone(node.args.vararg)
            self.assertIsNone(node.args.kwarg)
        for name, node in nodes(ast.ClassDef):
            methods = [item.name for item in node.body if isinstance(item, ast.FunctionDef)]
            self.assertEqual(len(methods), len(set(methods)))
            self.assertTrue("__getitem__" not in methods or "__iter__" in methods)
            fields = {item.attr for item in ast.walk(node) if isinstance(item, ast.Attribute) and isinstance(item.ctx, ast.Store)}
            self.assertEqual(sorted(fields & set(methods)), [])
            self.assertEqual(node.decorator_list, [])
            self.assertNotIn("keys", methods)

    def test_signs_and_values(self):
        banned = (ast.Global, ast.AsyncFunctionDef, ast.Await, ast.AnnAssign, ast.NamedExpr, ast.Lambda, ast.Div, ast.With)
        self.assertEqual([where(name, node) for name, node in nodes(*banned)], [])
        for name, node in nodes(ast.Constant):
            self.assertNotIsInstance(node.value, (float, complex, bytes), where(name, node))
            if isinstance(node.value, str):
                self.assertFalse("%" in node.value or re.search(r"(^__.*__$)", node.value), where(name, node))
        for name, node in nodes(ast.Compare):
            for sign, other in zip(node.ops, node.comparators):
                if isinstance(sign, (ast.Is, ast.IsNot)):
                    self.assertIn(getattr(other, "value", 0), (None, True, False), where(name, node))

    def test_only_own_errors_are_caught(self):
        for name, node in nodes(ast.Try):
            for item in node.finalbody:
                self.assertIsInstance(item, ast.Assign, where(name, item))
                given = [part for part in ast.walk(item.value) if not isinstance(part, (ast.Tuple, ast.Name, ast.Load))]
                self.assertEqual(given, [], where(name, item))
            for handler in node.handlers:
                self.assertIn(handler.type.id, own_errors(), where(name, handler))

    def test_statements_of_their_own_are_calls(self):
        for name, node in nodes(ast.Expr):
            docstring = isinstance(node.value, ast.Constant) and isinstance(node.value.value, str)
            self.assertTrue(docstring or isinstance(node.value, (ast.Call, ast.Yield, ast.YieldFrom)), where(name, node))

    def test_names_of_properties_and_static_methods_are_used_for_nothing_else(self):
        decorated, plain = [], {node.attr for _, node in nodes(ast.Attribute) if isinstance(node.ctx, ast.Store)}
        for methods in methods_by_class().values():
            for item in methods:
                if item.decorator_list:
                    decorated.append(item.name)
                else:
                    plain.add(item.name)
        self.assertEqual(sorted(set(decorated) & plain), [])
        self.assertEqual(len(decorated), len(set(decorated)))

    def test_names_of_methods_and_of_attributes_are_not_the_same(self):
        methods = {item.name for found in methods_by_class().values() for item in found}
        stored = {node.attr for _, node in nodes(ast.Attribute) if isinstance(node.ctx, ast.Store)}
        self.assertEqual(sorted(methods & stored), [])

    def test_sets_stand_where_they_may(self):
        fine = []
        for _, node in nodes(ast.Call):
            if isinstance(node.func, ast.Name) and node.func.id in ("sorted", "len"):
                left = list(node.args)
                while left:
                    item = left.pop()
                    fine.append(item)
                    left += [item.left, item.right] if isinstance(item, ast.BinOp) else []
        for name, node in nodes(ast.Set, ast.SetComp):
            self.assertTrue(any(node is item for item in fine), where(name, node))
        for name, node in nodes(ast.GeneratorExp):
            self.fail(where(name, node))

    def test_names(self):
        for name, tree in TREES.items():
            taken = {alias.name for node in tree.body if isinstance(node, ast.ImportFrom) for alias in node.names}
            taken |= {node.name for node in tree.body if isinstance(node, ast.ClassDef)}
            for node in ast.walk(tree):
                if isinstance(node, ast.Name) and isinstance(node.ctx, ast.Load) and hasattr(builtins, node.id):
                    self.assertIn(node.id, BUILTINS, where(name, node))
                stored = isinstance(node, ast.Name) and isinstance(node.ctx, ast.Store)
                word = node.id if stored else node.arg if isinstance(node, ast.arg) else None
                if word is not None:
                    self.assertFalse(hasattr(builtins, word) or word in taken, where(name, node))
                if isinstance(node, ast.Name):
                    self.assertFalse(node.id == "_" and not stored, where(name, node))

    def test_words(self):
        for name in files():
            words = set(re.findall(r"[A-Za-z_]+", text_of(name)))
            self.assertEqual(sorted(words & BARRED), [], name)
            self.assertNotIn("type", words, name)

    def test_methods_that_are_called(self):
        known = METHODS | own_attributes()
        for name, node in nodes(ast.Call):
            if isinstance(node.func, ast.Attribute):
                self.assertIn(node.func.attr, known, where(name, node))
            if isinstance(node.func, ast.Name):
                keywords = [keyword.arg for keyword in node.keywords]
                self.assertTrue(not keywords or (node.func.id, keywords) == ("max", ["default"]), where(name, node))

    def test_attributes_are_no_names_of_builtin_values(self):
        taken = set()
        for kind in (str, int, list, dict, set, bytes):
            taken |= {word for word in dir(kind) if not word.startswith("__")}
        self.assertEqual(sorted((own_attributes() & taken) - {"index", "is_integer"}), [])

    def test_generators_have_names_of_their_own(self):
        found = {}
        for name, node in nodes(ast.FunctionDef):
            found.setdefault(node.name, []).append(any(isinstance(item, (ast.Yield, ast.YieldFrom)) for item in ast.walk(node)))
        for word, yields in found.items():
            self.assertTrue(yields == [True] or not any(yields), word)

    def test_the_interface(self):
        for module, listed in LISTED.items():
            tree = TREES[module + ".py"]
            for word, methods in listed.items():
                self.assertIn(word, defined(tree))
                if methods is not None:
                    body = next(node for node in tree.body if isinstance(node, ast.ClassDef) and node.name == word).body
                    there = [node.name for node in body if isinstance(node, ast.FunctionDef)]
                    self.assertEqual(sorted(set(methods) - set(there)), [], word)


if __name__ == "__main__":
    unittest.main()
