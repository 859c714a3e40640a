"""What the files of the package keep to, as far as a look at their syntax can tell.

Narrower than the rules in many places: what the package does not need is not let through here.
"""

import ast
import builtins
import io
import keyword
import pathlib
import re
import tokenize
import unittest

PACKAGE = pathlib.Path(__file__).resolve().parent.parent / "lettersdesk"

BUILTINS = (
    "len range enumerate zip min max sum abs sorted reversed int str bool list tuple dict set isinstance ord repr any "
    "all divmod super property ValueError TypeError KeyError"
).split()
DOUBLES = "__init__ __eq__ __len__ __getitem__ __iter__ __add__ __contains__".split()
STATEMENTS = (
    ast.Assign, ast.AugAssign, ast.If, ast.While, ast.For, ast.Return, ast.Break, ast.Continue, ast.Pass, ast.Raise,
    ast.Delete, ast.Expr, ast.FunctionDef, ast.ClassDef, ast.ImportFrom,
)
BARRED_NODES = (
    ast.GeneratorExp, ast.Yield, ast.YieldFrom, ast.Await, ast.Div, ast.MatMult, ast.Pow, ast.Mod, ast.Set, ast.SetComp,
    ast.NamedExpr, ast.Global, ast.Nonlocal, ast.AnnAssign, ast.Try, ast.Match, ast.With,
)
# L25, and the names that no method or attribute of the package may have: L17, L26.
METHODS = (
    "append clear copy count endswith extend find get index insert isalnum isalpha isdigit islower isspace isupper "
    "items join keys ljust lower lstrip partition pop remove replace reverse rfind rjust rpartition rsplit rstrip "
    "setdefault split splitlines startswith strip update upper values zfill bit_length"
).split()
NO_NAMES = "mro elements open input law version_info with_traceback add_note register".split()
NO_BINDINGS = NO_NAMES + (
    "attrgetter breakpoint builtins compile copyright credits delattr dir eval exec exit gc getattr globals hasattr "
    "help id importlib license locals methodcaller os quit setattr super type vars sys _wall"
).split()
NO_WORDS = (
    "type typing typing_extensions enum Enum IntEnum StrEnum Flag IntFlag Generic Protocol ABC ABCMeta namedtuple "
    "NamedTuple TypedDict TYPE_CHECKING abstractmethod dataclass overload contextmanager Meta _wall _WallAttr"
).split()
ITERATORS = {"zip", "enumerate", "reversed", "items", "keys", "values"}
KEYWORDS = {"max": {"default"}, "min": {"default"}, "enumerate": {"start"}, "sorted": {"key", "reverse"}}


def files():
    return sorted(PACKAGE.rglob("*.py"))


def trees():
    return [(path.name, ast.parse(path.read_text())) for path in files()]


def nodes(*kinds):
    for name, tree in trees():
        for node in ast.walk(tree):
            if isinstance(node, kinds):
                yield f"{name}:{getattr(node, 'lineno', 0)}", node


def functions_of(tree):
    return [node for node in ast.walk(tree) if isinstance(node, ast.FunctionDef)]


def classes():
    return [node for _, node in nodes(ast.ClassDef)]


def methods():
    return {node.name for each in classes() for node in each.body if isinstance(node, ast.FunctionDef)}


def stored_attributes(tree):
    return {n.attr for n in ast.walk(tree) if isinstance(n, ast.Attribute) and isinstance(n.ctx, ast.Store)}


def called_name(call):
    return call.func.id if isinstance(call.func, ast.Name) else getattr(call.func, "attr", None)


class FilesTest(unittest.TestCase):
    def test_l1_l14_the_folder_contains_nothing_else(self):
        found = [path for path in PACKAGE.rglob("*") if "__pycache__" not in path.parts and path.is_file()]
        self.assertCountEqual(found, files())
        self.assertIn(PACKAGE / "__init__.py", files())
        for path in files():
            self.assertRegex(path.stem, "^(__init__|[a-z]+)$")
            self.assertNotIn(path.stem, set(dir(builtins)) | set(NO_WORDS))

    def test_l10_l14_characters_and_lengths(self):
        for path in files():
            text = path.read_bytes()
            self.assertTrue(all(byte == 10 or 32 <= byte <= 126 for byte in text), path.name)
            lines = text.split(b"\n")
            self.assertLessEqual(len(lines), 400, path.name)
            self.assertLessEqual(max(map(len, lines)), 120, path.name)
        for at, node in nodes(ast.FunctionDef):
            self.assertLessEqual(node.end_lineno - node.lineno + 1 + len(node.decorator_list), 40, at)

    def test_l2_l16_imports(self):
        graph = {}
        for name, tree in trees():
            graph[name[:-3]] = []
            for node in ast.walk(tree):
                self.assertNotIsInstance(node, ast.Import, name)
                if isinstance(node, ast.ImportFrom):
                    self.assertIn(node, tree.body)
                    package, file = node.module.split(".")
                    self.assertEqual((package, node.level), ("lettersdesk", 0))
                    graph[name[:-3]].append(file)
                    body = dict(trees())[f"{file}.py"].body
                    own = [each.name for each in body if isinstance(each, (ast.FunctionDef, ast.ClassDef))]
                    own += [each.targets[0].id for each in body if isinstance(each, ast.Assign)]
                    for alias in node.names:
                        self.assertIn(alias.name, own, name)
                        self.assertIsNone(alias.asname)
        while graph:
            # A file is taken out when all that it imports is; what is left at the end goes in a circle.
            free = [file for file, used in graph.items() if not any(each in graph for each in used)]
            self.assertNotEqual(free, [], graph)
            for file in free:
                del graph[file]

    def test_l3_l15_module_level(self):
        for name, tree in trees():
            bound = []
            for at, node in enumerate(tree.body):
                if at == 0:
                    self.assertIsNotNone(ast.get_docstring(tree), name)
                elif isinstance(node, ast.Assign):
                    self.assertEqual([target.__class__ for target in node.targets], [ast.Name])
                    value = ast.literal_eval(node.value)
                    self.assertIsInstance(value, (int, str, tuple))
                    self.assertNotIn("[", repr(value))
                    bound.append(node.targets[0].id)
                elif isinstance(node, ast.ImportFrom):
                    bound.extend(alias.name for alias in node.names)
                else:
                    self.assertIsInstance(node, (ast.FunctionDef, ast.ClassDef))
                    bound.append(node.name)
            self.assertEqual(len(bound), len(set(bound)), name)

    def test_l17_words(self):
        for path in files():
            for token in tokenize.generate_tokens(io.StringIO(path.read_text()).readline):
                for word in re.findall("[A-Za-z_]+", token.string):
                    self.assertNotIn(word, NO_WORDS, path.name)
                self.assertNotRegex(token.string, r"\(type\)|metaclass=|overload|contextmanager|dataclass")

    def test_l27_strings(self):
        for at, node in nodes(ast.Constant):
            self.assertIsInstance(node.value, (int, str, bool, None.__class__), at)
            if isinstance(node.value, str):
                self.assertNotIn("%", node.value, at)
                self.assertFalse(node.value.endswith(("._", ".__")) or node.value.startswith("__"), at)
        for path in files():
            self.assertEqual(re.findall(r"\\[^nt\\'\"]", path.read_text()), [])


class StatementsTest(unittest.TestCase):
    def test_l6_l7_statements_and_expressions(self):
        for at, node in nodes(ast.stmt):
            self.assertIsInstance(node, STATEMENTS, at)
            if isinstance(node, ast.Expr) and not isinstance(node.value, ast.Call):
                self.assertIsInstance(node.value.value, str, at)
        for at, node in nodes(ast.AST):
            self.assertNotIsInstance(node, BARRED_NODES, at)

    def test_l4_l5_functions_and_decorators(self):
        for at, node in nodes(ast.FunctionDef):
            decorators = [ast.unparse(each) for each in node.decorator_list]
            self.assertIn(decorators, [[], ["property"], [f"{node.name}.setter"]], at)
            self.assertEqual((node.args.vararg, node.args.kwarg, node.args.kwonlyargs), (None, None, []), at)
            self.assertEqual((node.args.posonlyargs, node.args.defaults, node.returns), ([], [], None), at)
            for arg in node.args.args:
                self.assertIsNone(arg.annotation, at)
            if node.name.startswith("__"):
                self.assertIn(node.name, DOUBLES, at)

    def test_l5_l18_classes(self):
        errors = {node.name for node in classes() if node.name in ("DeskError",)}
        for node in classes():
            self.assertEqual(node.decorator_list + node.keywords, [])
            self.assertLessEqual(len(node.bases), 1)
            for base in node.bases:
                self.assertIn(base.id, {"ValueError"} | errors)
            plain = [each.name for each in node.body if isinstance(each, ast.FunctionDef) and not each.decorator_list]
            self.assertEqual(len(plain), len(set(plain)), node.name)
            for each in node.body:
                self.assertTrue(isinstance(each, ast.FunctionDef) or each is node.body[0], node.name)
            names = {each.name for each in node.body if isinstance(each, ast.FunctionDef)}
            if "__getitem__" in names:
                self.assertIn("__iter__", names)

    def test_l18_attributes_and_methods_have_different_names(self):
        stored = set().union(*[stored_attributes(tree) for _, tree in trees()])
        self.assertEqual(stored & methods(), set())
        read = {node.attr for _, node in nodes(ast.Attribute) if isinstance(node.ctx, ast.Load)}
        self.assertEqual(read - stored - methods() - set(METHODS) - {"setter"}, set())
        for at, node in nodes(ast.Attribute):
            if isinstance(node.ctx, ast.Store):
                self.assertEqual(node.value.id, "self", at)

    def test_l19_l20_errors_and_is(self):
        own = {node.name for node in classes()}
        for at, node in nodes(ast.Raise):
            self.assertIsInstance(node.exc, ast.Call, at)
            self.assertIn(node.exc.func.id, own | {"TypeError"}, at)
            self.assertIsNone(node.cause, at)
        for at, node in nodes(ast.Compare):
            for operator, right in zip(node.ops, node.comparators):
                if isinstance(operator, (ast.Is, ast.IsNot)):
                    self.assertIn(getattr(right, "value", 0), (None, True, False), at)

    def test_l28_double_underscore_methods(self):
        for node in classes():
            for each in node.body:
                if getattr(each, "name", "") == "__init__":
                    self.assertEqual([inner for inner in ast.walk(each) if isinstance(inner, ast.Return)], [])
                if getattr(each, "name", "") == "__len__":
                    self.assertRegex(ast.unparse(each.body[-1]), r"^return len\(self\.\w+\)$")
                if getattr(each, "name", "") == "__eq__":
                    self.assertRegex(ast.unparse(each.body[-1]), rf"^return isinstance\(other, {node.name}\) and ")
                if getattr(each, "name", "") in ("__len__", "__eq__", "__contains__", "__getitem__", "__add__"):
                    for inner in ast.walk(each):
                        self.assertNotIsInstance(inner, (ast.Assign, ast.AugAssign, ast.Delete))


class NamesTest(unittest.TestCase):
    def test_l8_builtins(self):
        barred = set(dir(builtins)) - set(BUILTINS)
        for at, node in nodes(ast.Name):
            self.assertNotIn(node.id, barred, at)
            if isinstance(node.ctx, ast.Store):
                self.assertNotIn(node.id, dir(builtins), at)

    def test_l12_l15_l17_names(self):
        for name, tree in trees():
            used = {alias.name for node in tree.body if isinstance(node, ast.ImportFrom) for alias in node.names}
            used |= {node.name for node in tree.body if isinstance(node, ast.ClassDef)}
            for function in functions_of(tree):
                inner = [node for node in ast.walk(function) if isinstance(node, (ast.Name, ast.arg))]
                bound = {node.arg for node in inner if isinstance(node, ast.arg)}
                bound |= {node.id for node in inner if isinstance(node, ast.Name) and isinstance(node.ctx, ast.Store)}
                self.assertEqual(bound & (used | set(dir(builtins)) | set(NO_BINDINGS)), set(), function.name)
                for each in bound | {function.name.strip("_")}:
                    self.assertRegex(each, "^_?[a-z][a-z_]*$|^_$")
                    self.assertFalse(keyword.issoftkeyword(each) and each != "_", each)
                self.assertFalse([n for n in inner if getattr(n, "id", "") == "_" and isinstance(n.ctx, ast.Load)])

    def test_l17_l26_names_of_methods_and_attributes(self):
        stored = set().union(*[stored_attributes(tree) for _, tree in trees()])
        own_kinds = (str, int, list, dict, set, bytes, tuple)
        known = {each for kind in own_kinds for each in dir(kind) if not each.startswith("_")}
        self.assertEqual((methods() | stored) & set(NO_BINDINGS), set())
        self.assertEqual(methods() & known, set())
        self.assertEqual(stored & known, {"index"})
        self.assertEqual(methods() & set(dir(builtins)), set())


class CallsTest(unittest.TestCase):
    def test_l22_keywords_and_numbers_of_arguments(self):
        for at, node in nodes(ast.Call):
            name = called_name(node)
            for each in node.keywords:
                self.assertIn(each.arg, KEYWORDS.get(name, ()), at)
            self.assertFalse(any(isinstance(arg, ast.Starred) for arg in node.args), at)

    def test_l22_calls_of_own_functions_take_what_they_are_passed(self):
        takes = {}
        for _, tree in trees():
            for node in tree.body:
                if isinstance(node, ast.FunctionDef):
                    takes.setdefault(node.name, set()).add(len(node.args.args))
                for each in getattr(node, "body", []) if isinstance(node, ast.ClassDef) else []:
                    if isinstance(each, ast.FunctionDef):
                        name = node.name if each.name == "__init__" else each.name
                        takes.setdefault(name, set()).add(len(each.args.args) - 1)
        for at, node in nodes(ast.Call):
            if called_name(node) in takes:
                self.assertIn(len(node.args), takes[called_name(node)], at)

    def test_l23_iterated_at_once(self):
        for name, tree in trees():
            heads = [node.iter for node in ast.walk(tree) if isinstance(node, (ast.For, ast.comprehension))]
            for node in ast.walk(tree):
                if isinstance(node, ast.Call) and called_name(node) in ("list", "tuple"):
                    heads.extend(node.args)
            for node in ast.walk(tree):
                if isinstance(node, ast.Call) and called_name(node) in ITERATORS | {"range"}:
                    self.assertIn(node, heads, (name, node.lineno))

    def test_l23_what_a_loop_goes_over_is_not_changed_in_it(self):
        changing = {"append", "extend", "pop", "clear", "insert", "remove", "update", "setdefault", "reverse"}
        for at, loop in nodes(ast.For):
            over = {ast.unparse(node) for node in ast.walk(loop.iter) if isinstance(node, (ast.Name, ast.Attribute))}
            for node in [inner for row in loop.body for inner in ast.walk(row)]:
                if isinstance(node, ast.Call) and called_name(node) in changing:
                    self.assertNotIn(ast.unparse(node.func.value), over, at)
                if isinstance(node, (ast.Subscript, ast.Attribute)) and isinstance(node.ctx, ast.Store):
                    self.assertNotIn(ast.unparse(node.value), over - {"self"}, at)

    def test_l24_sets(self):
        """The package only measures a set where it is made; it stores and iterates none."""
        made = [ast.unparse(node) for _, node in nodes(ast.Call) if called_name(node) == "set"]
        measured = [ast.unparse(node.args[0]) for _, node in nodes(ast.Call) if called_name(node) == "len"]
        self.assertEqual(made, [text for text in measured if text.startswith("set(")])

    def test_l25_methods_of_builtin_values(self):
        for at, node in nodes(ast.Call):
            if isinstance(node.func, ast.Attribute):
                self.assertIn(node.func.attr, methods() | set(METHODS), at)
                if node.func.attr == "join":
                    self.assertIsInstance(node.func.value, ast.Constant, at)

    def test_l13_lambdas(self):
        rows = [at for at, _ in nodes(ast.Lambda)]
        self.assertEqual(len(rows), len(set(rows)))


if __name__ == "__main__":
    unittest.main()
