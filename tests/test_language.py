"""Rules for the files of the package that can be read off their text and syntax."""

import ast
import builtins
import pathlib
import re
import unittest

from webnumbers import errors

FOLDER = pathlib.Path(__file__).parent.parent / "webnumbers"
FILES = sorted(path for path in FOLDER.iterdir() if path.name != "__pycache__")
BUILTINS = """len range enumerate zip min max sum abs sorted reversed int str bool list tuple dict set frozenset
isinstance ord repr any all divmod Exception ValueError TypeError KeyError IndexError LookupError super
property staticmethod iter""".split()
METHODS = """append clear copy count endswith extend find get index insert isalnum isalpha isdigit islower isspace
isupper items join keys ljust lower lstrip partition pop remove replace reverse rfind rjust rpartition rsplit rstrip
setdefault split splitlines startswith strip update upper values zfill bit_length isascii isdecimal add discard
__init__""".split()
DOUBLE = """__init__ __add__ __radd__ __mul__ __rmul__ __floordiv__ __pow__ __call__ __str__ __iter__ __contains__
__getitem__ __setitem__""".split()
ITERATING = "list tuple dict sorted sum min max any all enumerate zip".split()
BARRED_WORDS = """type typing enum Enum Generic Protocol ABC namedtuple NamedTuple TypedDict dataclass
overload""".split()
BARRED_NAMES = "register mro elements law".split()


def nodes_of(tree, *kinds):
    return [node for node in ast.walk(tree) if isinstance(node, kinds)]


def bound_names(tree):
    """Return the names that functions, classes, imports, parameters and assignments bind."""
    names = [node.name for node in nodes_of(tree, ast.FunctionDef, ast.ClassDef)]
    names += [node.arg for node in nodes_of(tree, ast.arg)]
    names += [node.id for node in nodes_of(tree, ast.Name) if isinstance(node.ctx, ast.Store)]
    return names


class LanguageTest(unittest.TestCase):
    def each_file(self):
        for path in FILES:
            text = path.read_text(encoding="utf-8")
            yield path, text, ast.parse(text)

    def test_the_folder(self):
        for path in FILES:
            self.assertRegex(path.name, r"\A[a-z_]+\.py\Z")
        self.assertIn("__init__.py", [path.name for path in FILES])

    def test_sizes_and_characters(self):
        for path, text, tree in self.each_file():
            lines = text.split("\n")
            self.assertLess(len(lines), 400)
            self.assertLessEqual(max(map(len, lines)), 120)
            self.assertRegex(text, r"\A[ -~\n]*\Z")
            for function in nodes_of(tree, ast.FunctionDef):
                self.assertLessEqual(function.end_lineno - function.lineno + 1, 40, function.name)

    def test_imports(self):
        imported = {}
        for path, _, tree in self.each_file():
            imported[path.stem] = []
            self.assertEqual([], nodes_of(tree, ast.Import))
            for node in nodes_of(tree, ast.ImportFrom):
                names = [alias.name for alias in node.names]
                self.assertIn(node, tree.body)
                if node.module == "math":
                    self.assertLessEqual(set(names), {"gcd", "lcm", "isqrt", "comb", "perm", "factorial"})
                    continue
                module = re.fullmatch(r"webnumbers\.([a-z]+)", node.module).group(1)
                imported[path.stem].append(module)
                source = ast.parse((FOLDER / f"{module}.py").read_text(encoding="utf-8"))
                defined = [bound for part in source.body for bound in bound_names(part)]
                self.assertLessEqual(set(names), set(defined))
        while imported:
            free = [name for name, modules in imported.items() if not set(modules) & set(imported)]
            self.assertNotEqual([], free, "files import from each other")
            for name in free:
                del imported[name]

    def test_names(self):
        for _, text, tree in self.each_file():
            imports = [alias.name for node in nodes_of(tree, ast.ImportFrom) for alias in node.names]
            for name in bound_names(tree):
                self.assertNotIn(name, dir(builtins))
                self.assertNotIn(name, imports)
                self.assertNotIn(name, BARRED_NAMES)
                if name not in DOUBLE:
                    self.assertRegex(name, r"\A(_|_?[A-Za-z][A-Za-z0-9_]*)\Z")
            for word in re.findall(r"\w+", text):
                self.assertNotIn(word, BARRED_WORDS)

    def test_only_known_builtins_and_methods(self):
        own = [name for _, _, tree in self.each_file() for name in bound_names(tree)]
        for _, _, tree in self.each_file():
            for node in nodes_of(tree, ast.Name):
                if hasattr(builtins, node.id):
                    self.assertIn(node.id, BUILTINS)
            for node in nodes_of(tree, ast.Call):
                if isinstance(node.func, ast.Attribute):
                    self.assertIn(node.func.attr, METHODS + own)

    def test_statements_and_values(self):
        barred = (ast.Global, ast.AsyncFunctionDef, ast.Await, ast.Div, ast.MatMult)
        for _, text, tree in self.each_file():
            self.assertEqual([], nodes_of(tree, *barred))
            for node in nodes_of(tree, ast.Constant):
                self.assertNotIsInstance(node.value, (float, complex, bytes))
                self.assertNotIn("%", str(node.value))
            for node in tree.body:
                self.assertIsInstance(node, (ast.Expr, ast.ImportFrom, ast.FunctionDef, ast.ClassDef, ast.Assign))
            for node in nodes_of(tree, ast.SetComp, ast.Set):
                self.assertNotIn(node, [loop.iter for loop in nodes_of(tree, ast.For, ast.comprehension)])

    def test_each_name_of_a_module_is_bound_once(self):
        generators = []
        others = []
        for _, _, tree in self.each_file():
            names = [name for part in tree.body if not isinstance(part, ast.Expr) for name in self.top_names(part)]
            self.assertEqual(sorted(set(names)), sorted(names))
            for function in nodes_of(tree, ast.FunctionDef):
                yields = nodes_of(function, ast.Yield, ast.YieldFrom)
                (generators if yields else others).append(function.name)
        self.assertEqual(set(), set(generators) & set(others))

    def test_generators_are_iterated_at_once(self):
        generators = []
        for _, _, tree in self.each_file():
            for function in nodes_of(tree, ast.FunctionDef):
                if nodes_of(function, ast.Yield, ast.YieldFrom):
                    generators.append(function.name)
        for path, _, tree in self.each_file():
            at_once = [loop.iter for loop in nodes_of(tree, ast.For, ast.comprehension)]
            at_once += [node.value for node in nodes_of(tree, ast.YieldFrom)]
            for call in nodes_of(tree, ast.Call):
                if isinstance(call.func, ast.Name) and call.func.id in ITERATING:
                    at_once += call.args[:1]
            calls = [call for call in nodes_of(tree, ast.Call)
                     if isinstance(call.func, ast.Name) and call.func.id in generators]
            for call in calls:
                self.assertIn(call, at_once, path.name)
                for value in call.args + [word.value for word in call.keywords]:
                    self.assertIsInstance(value, (ast.Name, ast.Attribute, ast.Constant), path.name)
            uses = [node for node in nodes_of(tree, ast.Name) if node.id in generators]
            self.assertEqual([call.func for call in calls], uses, path.name)

    def test_sets_are_used_on_the_spot_or_kept_in_a_variable(self):
        for path, _, tree in self.each_file():
            allowed = [node.value for node in nodes_of(tree, ast.Assign)]
            for node in nodes_of(tree, ast.Compare):
                allowed += [node.left, *node.comparators]
            for call in nodes_of(tree, ast.Call):
                if isinstance(call.func, ast.Name) and call.func.id in ("sorted", "len"):
                    allowed += call.args if not call.keywords else []
            for node in nodes_of(tree, ast.Set, ast.SetComp):
                self.assertIn(node, allowed, path.name)
            for call in nodes_of(tree, ast.Call):
                if isinstance(call.func, ast.Name) and call.func.id == "set":
                    self.assertIn(call, allowed, path.name)

    def test_operators(self):
        for path, _, tree in self.each_file():
            for node in nodes_of(tree, ast.BinOp):
                if isinstance(node.op, ast.Pow):
                    self.assertIsInstance(node.right, ast.Constant, path.name)
            for node in nodes_of(tree, ast.Compare):
                for sign, value in zip(node.ops, node.comparators):
                    if isinstance(sign, (ast.Is, ast.IsNot)):
                        self.assertIsInstance(value, ast.Constant, path.name)

    def test_sorted_takes_no_generator(self):
        # The package has operators, which bar it.
        for path, _, tree in self.each_file():
            for call in nodes_of(tree, ast.Call):
                if isinstance(call.func, ast.Name) and call.func.id == "sorted":
                    self.assertNotIsInstance(call.args[0], ast.GeneratorExp, path.name)

    def test_what_operators_run_changes_nothing(self):
        # Operators call functions of these files. Beside a reflected addition, += takes literal integers only.
        for path, _, tree in self.each_file():
            if path.stem in ("monomials", "terms", "polys"):
                for node in nodes_of(tree, ast.AugAssign):
                    self.assertIsInstance(node.value, ast.Constant, path.name)
                for node in nodes_of(tree, ast.Attribute):
                    if isinstance(node.ctx, ast.Store):
                        self.assertEqual(("self", "terms"), (node.value.id, node.attr))

    def test_generator_expressions_stand_alone(self):
        for path, _, tree in self.each_file():
            alone = []
            for call in nodes_of(tree, ast.Call):
                if isinstance(call.func, ast.Name) and call.func.id in ITERATING:
                    alone += call.args[:1]
                if isinstance(call.func, ast.Attribute) and call.func.attr == "join":
                    alone += call.args[:1]
            for node in nodes_of(tree, ast.GeneratorExp):
                self.assertIn(node, alone, path.name)

    def test_handlers_name_own_errors(self):
        for path, _, tree in self.each_file():
            for handler in nodes_of(tree, ast.ExceptHandler):
                self.assertTrue(hasattr(errors, handler.type.id), path.name)

    def test_decorators(self):
        for path, _, tree in self.each_file():
            methods = [node for kind in nodes_of(tree, ast.ClassDef) for node in kind.body]
            for node in nodes_of(tree, ast.FunctionDef, ast.ClassDef):
                names = [word.id for word in node.decorator_list]
                self.assertIn(names, ([], ["property"], ["staticmethod"]), path.name)
                self.assertTrue(node in methods or not names, path.name)

    def test_no_name_is_a_method_and_an_attribute(self):
        methods, attributes = set(), set()
        for _, _, tree in self.each_file():
            for kind in nodes_of(tree, ast.ClassDef):
                methods |= {node.name for node in kind.body if isinstance(node, ast.FunctionDef)}
            attributes |= {node.attr for node in nodes_of(tree, ast.Attribute) if isinstance(node.ctx, ast.Store)}
        self.assertEqual(set(), methods & attributes)

    def top_names(self, part):
        if isinstance(part, (ast.FunctionDef, ast.ClassDef)):
            return [part.name]
        if isinstance(part, ast.ImportFrom):
            return [alias.name for alias in part.names]
        return [target.id for target in part.targets]


if __name__ == "__main__":
    unittest.main()
