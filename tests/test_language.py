"""Those rules of LANGUAGE.md that a reader of the syntax tree can see."""

import ast
import pathlib
import re
import unittest

PACKAGE = pathlib.Path(__file__).resolve().parent.parent / "lastlife"
LIBRARY = {"math": {"gcd", "lcm", "isqrt", "comb", "perm", "factorial"},
           "heapq": {"heappush", "heappop", "heapify", "heapreplace", "heappushpop"},
           "collections": {"defaultdict"},
           "itertools": {"chain", "accumulate", "pairwise", "islice", "zip_longest"}}
BUILTINS = set("""len range enumerate zip min max sum abs sorted reversed int str bool bytes list tuple dict set
    isinstance ord repr any all divmod pow getattr hasattr setattr iter next map Exception ValueError TypeError
    KeyError IndexError LookupError ZeroDivisionError ArithmeticError OverflowError RuntimeError
    NotImplementedError NotImplemented super property staticmethod classmethod""".split())
OPERATORS = set("""__add__ __sub__ __mul__ __and__ __or__ __xor__ __invert__ __neg__ __bool__ __contains__
    __getitem__ __iter__ __init__ __eq__ __repr__ __str__ __len__ __enter__ __exit__ __call__""".split())
BARRED = set("register mro elements open input law version_info with_traceback add_note".split())
BARRED_WORDS = set("""type typing typing_extensions enum Enum IntEnum StrEnum Flag IntFlag Generic Protocol ABC
    ABCMeta namedtuple NamedTuple TypedDict TYPE_CHECKING abstractmethod""".split())
OF_VALUES = set("items keys values pop update append clear extend insert remove reverse setdefault sort args encode "
                "decode hex fromhex format format_map mro".split())
HIDDEN = re.compile(r"^(_wall|_pe_|_dcw_|_enum_|_cm_|_twin_re_|_lay_|_law_|_stub_|_sre|_WallAttr)|"
                    r"^(_cold|_tuplegetter|_outside|_record|_written_out|_member_names)[_0-9]*$")
STATEMENTS = (ast.Global, ast.AsyncFunctionDef, ast.AsyncFor, ast.AsyncWith, ast.Await, ast.GeneratorExp, ast.Div,
              ast.SetComp, ast.Set)


def files():
    """The files of the package with their trees."""
    return [(path, path.read_text(encoding="utf-8")) for path in sorted(PACKAGE.rglob("*.py"))]


def trees():
    return [(path, ast.parse(text)) for path, text in files()]


def bound(tree):
    """The names that a file defines at module level."""
    names = [node.name for node in tree.body if isinstance(node, (ast.FunctionDef, ast.ClassDef))]
    for node in tree.body:
        if isinstance(node, ast.Assign):
            names += [target.id for target in node.targets]
    return names


def imported(tree):
    return [node for node in ast.walk(tree) if isinstance(node, (ast.Import, ast.ImportFrom))]


class TestLanguage(unittest.TestCase):
    def test_files_and_characters(self):
        for path in PACKAGE.rglob("*"):
            if "__pycache__" not in path.parts and path.is_file():
                self.assertRegex(path.name, r"^[a-z0-9_]+\.py$")
        for path, text in files():
            self.assertRegex(text, r"\A[\n -~]+\Z", path)

    def test_sizes(self):
        for path, text in files():
            lines = text.split("\n")
            self.assertLessEqual(len(lines), 400, path)
            self.assertLessEqual(max(len(line) for line in lines), 120, path)
            for node in ast.walk(ast.parse(text)):
                if isinstance(node, ast.FunctionDef):
                    self.assertLessEqual(node.end_lineno - node.lineno + 1, 40, (path, node.name))

    def test_imports_name_the_file_that_defines_the_name(self):
        here = dict((path.stem, bound(tree)) for path, tree in trees())
        for path, tree in trees():
            for node in imported(tree):
                self.assertIsInstance(node, ast.ImportFrom, path)
                self.assertEqual(node.level, 0, path)
                folder, _, file = node.module.partition(".")
                wanted = here[file] if folder == "lastlife" else LIBRARY[node.module]
                for alias in node.names:
                    self.assertIn(alias.name, wanted, path)
                    self.assertIsNone(alias.asname, path)

    def test_no_two_files_import_from_each_other(self):
        needs = {path.stem: {node.module.partition(".")[2] for node in imported(tree)} for path, tree in trees()}
        done = set()
        while len(done) < len(needs):
            ready = {file for file in needs if file not in done and needs[file] - {""} <= done}
            self.assertTrue(ready, "these files need each other")
            done |= ready

    def test_module_level(self):
        for path, tree in trees():
            names = bound(tree) + [alias.name for node in imported(tree) for alias in node.names]
            self.assertEqual(len(names), len(set(names)), path)
            for at, node in enumerate(tree.body):
                docstring = at == 0 and isinstance(node, ast.Expr) and isinstance(node.value, ast.Constant)
                kinds = (ast.ImportFrom, ast.FunctionDef, ast.ClassDef, ast.Assign)
                self.assertTrue(docstring or isinstance(node, kinds), path)
                if isinstance(node, ast.Assign):
                    ast.literal_eval(node.value)

    def test_statements_and_values(self):
        for path, tree in trees():
            for node in ast.walk(tree):
                self.assertNotIsInstance(node, STATEMENTS, path)
                if isinstance(node, ast.Constant):
                    self.assertNotIsInstance(node.value, (float, complex), path)
                    if isinstance(node.value, str):
                        self.assertNotIn(chr(37), node.value, path)

    def test_decorators_and_double_underscores(self):
        for path, tree in trees():
            for node in ast.walk(tree):
                if isinstance(node, (ast.FunctionDef, ast.ClassDef)):
                    for decorator in node.decorator_list:
                        self.assertEqual(ast.unparse(decorator), "property", path)
                    if node.name.startswith("__"):
                        self.assertIn(node.name, OPERATORS, path)

    def test_names(self):
        builtin = set(dir(__builtins__)) if not isinstance(__builtins__, dict) else set(__builtins__)
        for path, tree in trees():
            own = set(bound(tree)) | {alias.name for node in imported(tree) for alias in node.names}
            for node in ast.walk(tree):
                names = []
                if isinstance(node, ast.Name):
                    if isinstance(node.ctx, ast.Load):
                        if node.id in builtin:
                            self.assertIn(node.id, BUILTINS, path)
                    else:
                        names = [node.id]
                elif isinstance(node, ast.arg):
                    names = [node.arg]
                    self.assertNotIn(node.arg, own, path)
                elif isinstance(node, ast.FunctionDef):
                    names = [node.name]
                for name in names:
                    self.assertNotIn(name, builtin, path)
                    self.assertNotIn(name, BARRED, path)
                    self.assertIsNone(HIDDEN.search(name), name)
                if isinstance(node, ast.Attribute):
                    self.assertNotIn(node.attr, BARRED, path)
                    if isinstance(node.ctx, ast.Store):
                        self.assertNotIn(node.attr, OF_VALUES, path)

    def test_words(self):
        for path, tree in trees():
            for node in ast.walk(tree):
                found = [word for _, word in ast.iter_fields(node) if isinstance(word, str)]
                if isinstance(node, ast.Constant) and found and len(found[0].split()) > 1:
                    continue
                for word in found:
                    self.assertNotIn(word, BARRED_WORDS, path)

    def test_stars_in_calls_stand_before_names(self):
        for path, tree in trees():
            for node in ast.walk(tree):
                if isinstance(node, ast.Call):
                    stars = [at for at, thing in enumerate(node.args) if isinstance(thing, ast.Starred)]
                    behind = node.args[stars[0] + 1:] + [word.value for word in node.keywords] if stars else []
                    for thing in [node.args[at].value for at in stars] + behind:
                        named = isinstance(thing, (ast.Name, ast.Constant))
                        kept = isinstance(thing, ast.Attribute) and isinstance(thing.value, ast.Name)
                        self.assertTrue(named or kept, (path, ast.unparse(node)))

    def test_no_property_has_the_name_of_a_method(self):
        methods, properties = set(), set()
        for _, tree in trees():
            for owner in [node for node in tree.body if isinstance(node, ast.ClassDef)]:
                for node in owner.body:
                    if isinstance(node, ast.FunctionDef):
                        (properties if node.decorator_list else methods).add(node.name)
        self.assertEqual(methods & properties, set())

    def test_classes_are_not_passed_on_or_stored(self):
        classes = {node.name for _, tree in trees() for node in tree.body if isinstance(node, ast.ClassDef)}
        for path, tree in trees():
            above = {inner: node for node in ast.walk(tree) for inner in ast.iter_child_nodes(node)}
            for node in ast.walk(tree):
                if isinstance(node, ast.Name) and node.id in classes:
                    user = above[node] if not isinstance(above[node], ast.Tuple) else above[above[node]]
                    if isinstance(user, ast.Call):
                        asked = isinstance(user.func, ast.Name) and user.func.id == "isinstance" and user.args[0] is not node
                        self.assertTrue(user.func is node or asked, (path, ast.unparse(user)))
                    else:
                        kinds = (ast.ClassDef, ast.ExceptHandler, ast.Raise, ast.Attribute)
                        self.assertIsInstance(user, kinds, (path, ast.unparse(user)))

    def test_what_changes_a_sum_in_place_is_a_literal_number(self):
        for path, tree in trees():
            for node in ast.walk(tree):
                if isinstance(node, ast.AugAssign):
                    self.assertIsInstance(node.value, ast.Constant, (path, ast.unparse(node)))

    def test_is_stands_beside_none_true_and_false(self):
        for path, tree in trees():
            for node in ast.walk(tree):
                if isinstance(node, ast.Compare):
                    for sign, thing in zip(node.ops, node.comparators):
                        if isinstance(sign, (ast.Is, ast.IsNot)):
                            self.assertIsInstance(thing, ast.Constant, (path, ast.unparse(node)))
                            self.assertIn(thing.value, (None, True, False))

    def test_views_and_the_like_are_iterated_at_once(self):
        takers = "list tuple dict sorted sum any all enumerate zip min max len".split()
        for path, tree in trees():
            above = {inner: node for node in ast.walk(tree) for inner in ast.iter_child_nodes(node)}
            for node in ast.walk(tree):
                called = node.func if isinstance(node, ast.Call) else None
                view = isinstance(called, ast.Attribute) and called.attr in ("items", "keys", "values")
                if view or isinstance(called, ast.Name) and called.id in ("zip", "enumerate", "reversed", "range"):
                    user = above[node]
                    loops = isinstance(user, (ast.For, ast.comprehension)) and user.iter is node
                    calls = isinstance(user, ast.Call) and isinstance(user.func, ast.Name) and user.func.id in takers
                    self.assertTrue(loops or calls, (path, ast.unparse(user)))

    def test_no_local_name_is_a_class_or_an_import_of_its_file(self):
        for path, tree in trees():
            taken = {node.name for node in ast.walk(tree) if isinstance(node, ast.ClassDef)}
            taken |= {alias.name for node in imported(tree) for alias in node.names}
            for node in ast.walk(tree):
                if isinstance(node, ast.Name) and isinstance(node.ctx, ast.Store):
                    self.assertNotIn(node.id, taken, path)

    def test_no_name_is_a_method_and_an_attribute_of_one_class(self):
        methods, attributes, bases = {}, {}, {}
        for _, tree in trees():
            for owner in [node for node in tree.body if isinstance(node, ast.ClassDef)]:
                bases[owner.name] = [base.id for base in owner.bases]
                methods[owner.name] = [node.name for node in owner.body if isinstance(node, ast.FunctionDef)]
                self.assertEqual(len(methods[owner.name]), len(set(methods[owner.name])), owner.name)
                attributes[owner.name] = [node.attr for node in ast.walk(owner) if isinstance(node, ast.Attribute)
                                          and isinstance(node.ctx, ast.Store)]
        for name in methods:
            family = [name]
            for one in family:
                family.extend(base for base in bases.get(one, ()) if base in methods)
            told = {method for one in family for method in methods[one]}
            kept = {attribute for one in family for attribute in attributes[one]}
            self.assertEqual(told & kept, set(), name)


if __name__ == "__main__":
    unittest.main()
