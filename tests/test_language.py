"""The package keeps to the subset of Python that it is written in, as far as a look at its trees can tell."""

import ast
import unittest
from pathlib import Path

FOLDER = Path(__file__).resolve().parent.parent / "leftproducts"
BUILTINS = set("""len range enumerate zip min max sum abs sorted reversed int str bool bytes list tuple dict set
frozenset isinstance ord repr any all divmod super Exception ValueError TypeError KeyError IndexError LookupError
ZeroDivisionError ArithmeticError OverflowError RuntimeError NotImplementedError AttributeError""".split())
METHODS = set("""append clear copy count endswith extend find get index insert isalnum isalpha isdigit islower isspace
isupper items join keys ljust lower lstrip partition pop remove replace reverse rfind rjust rpartition rsplit rstrip
setdefault split splitlines startswith strip update upper values zfill bit_length add discard""".split())
BARRED = set("""register mro elements open input law attrgetter breakpoint builtins compile copyright credits delattr
dir eval exec exit gc globals help id importlib license locals methodcaller os quit vars type typing enum Enum Flag
Generic Protocol ABC namedtuple NamedTuple dataclass overload contextmanager sys hash next iter map filter round chr
format print""".split())
NODES = (ast.GeneratorExp, ast.Yield, ast.YieldFrom, ast.Global, ast.AsyncFunctionDef, ast.Await, ast.Import, ast.Div,
         ast.MatMult, ast.Pow, ast.AnnAssign, ast.Match, ast.With, ast.NamedExpr, ast.Set)


def sources():
    return {path.stem: path.read_text(encoding="utf-8") for path in sorted(FOLDER.glob("*.py"))}


def functions(tree):
    return [node for node in ast.walk(tree) if isinstance(node, ast.FunctionDef)]


class LanguageTest(unittest.TestCase):
    def setUp(self):
        self.texts = sources()
        self.trees = {name: ast.parse(text) for name, text in self.texts.items()}

    def test_files(self):
        self.assertEqual([path.name for path in FOLDER.iterdir() if path.suffix != ".py" and path.name != "__pycache__"],
                         [])
        for name, text in self.texts.items():
            lines = text.split("\n")
            self.assertLessEqual(len(lines), 399, name)
            self.assertTrue(all(len(line) <= 120 for line in lines), name)
            self.assertTrue(all(sign == "\n" or " " <= sign <= "~" for sign in text), name)
            self.assertEqual(name, name.lower())

    def test_functions_are_short(self):
        for name, tree in self.trees.items():
            for node in functions(tree):
                self.assertLessEqual(node.end_lineno - node.lineno + 1, 40, (name, node.name))
                self.assertEqual(node.decorator_list, [])

    def test_module_level(self):
        for name, tree in self.trees.items():
            for node in tree.body:
                plain = isinstance(node, (ast.ImportFrom, ast.FunctionDef, ast.ClassDef, ast.Assign))
                text = isinstance(node, ast.Expr) and isinstance(node.value, ast.Constant)
                self.assertTrue(plain or text, (name, node.lineno))

    def test_imports_name_the_file_that_defines_and_are_used(self):
        for name, tree in self.trees.items():
            used = {node.id for node in ast.walk(tree) if isinstance(node, ast.Name)}
            for node in ast.walk(tree):
                if isinstance(node, ast.ImportFrom):
                    package, _, file = node.module.partition(".")
                    self.assertEqual((package, node.level), ("leftproducts", 0), name)
                    here = {part.name for part in self.trees[file].body
                            if isinstance(part, (ast.FunctionDef, ast.ClassDef))}
                    for alias in node.names:
                        self.assertIsNone(alias.asname)
                        self.assertIn(alias.name, here)
                        self.assertIn(alias.name, used, name)

    def test_no_two_files_import_from_each_other(self):
        before = {name: {node.module.split(".")[1] for node in tree.body if isinstance(node, ast.ImportFrom)}
                  for name, tree in self.trees.items()}
        done = set()
        while len(done) < len(before):
            free = {name for name in before if name not in done and before[name] <= done}
            self.assertTrue(free, "a circle of imports")
            done |= free

    def test_statements_and_signs(self):
        for name, tree in self.trees.items():
            for node in ast.walk(tree):
                self.assertNotIsInstance(node, NODES, (name, getattr(node, "lineno", 0)))
                if isinstance(node, ast.Constant):
                    self.assertNotIsInstance(node.value, (float, complex), name)
                    if isinstance(node.value, str):
                        self.assertNotIn("%", node.value, name)
                if isinstance(node, ast.Compare) and isinstance(node.ops[0], (ast.Is, ast.IsNot)):
                    self.assertIn(node.comparators[0].value, (None, True, False))
                if isinstance(node, ast.Assert):
                    self.fail((name, node.lineno))

    def test_names(self):
        for name, tree in self.trees.items():
            own = {node.name for node in tree.body if isinstance(node, (ast.FunctionDef, ast.ClassDef))}
            brought = {alias.name for node in tree.body if isinstance(node, ast.ImportFrom) for alias in node.names}
            classes = {node.name for node in tree.body if isinstance(node, ast.ClassDef)}
            for node in ast.walk(tree):
                if isinstance(node, ast.arg) or isinstance(node, ast.Name) and isinstance(node.ctx, ast.Store):
                    word = node.arg if isinstance(node, ast.arg) else node.id
                    self.assertNotIn(word, brought | classes | BUILTINS | BARRED, (name, node.lineno))
                    self.assertFalse(word.startswith("__"))
            for word in own:
                self.assertNotIn(word, BUILTINS | BARRED)

    def test_builtins_and_methods(self):
        names = {node.name for tree in self.trees.values() for node in ast.walk(tree)
                 if isinstance(node, (ast.FunctionDef, ast.ClassDef))}
        own = {part.name for tree in self.trees.values() for node in ast.walk(tree) if isinstance(node, ast.ClassDef)
               for part in node.body if isinstance(part, ast.FunctionDef)}
        self.assertFalse(own & METHODS)
        for name, tree in self.trees.items():
            for top in tree.body:
                # What a parameter holds may be called, too.
                given = {node.arg for node in ast.walk(top) if isinstance(node, ast.arg)}
                for node in ast.walk(top):
                    if isinstance(node, ast.Call) and isinstance(node.func, ast.Name):
                        self.assertIn(node.func.id, names | BUILTINS | given, (name, node.lineno))
                    if isinstance(node, ast.Call) and isinstance(node.func, ast.Attribute):
                        self.assertIn(node.func.attr, METHODS | own, (name, node.lineno))

    def test_sets_are_counted_or_sorted_at_once(self):
        for name, tree in self.trees.items():
            fitting = {id(node.args[0]) for node in ast.walk(tree) if isinstance(node, ast.Call)
                       and isinstance(node.func, ast.Name) and node.func.id in ("sorted", "len")}
            for node in ast.walk(tree):
                made = isinstance(node, ast.SetComp)
                made = made or isinstance(node, ast.Call) and isinstance(node.func, ast.Name) and node.func.id == "set"
                self.assertTrue(not made or id(node) in fitting, (name, getattr(node, "lineno", 0)))


if __name__ == "__main__":
    unittest.main()
