"""Those rules for the files of the package that can be tested quickly; the numbers are those of the rules."""

import ast
import builtins
import pathlib
import re
import unittest

PACKAGE = pathlib.Path(__file__).resolve().parent.parent / "everypast"
FILES = sorted(path for path in PACKAGE.rglob("*") if "__pycache__" not in path.parts)

BUILTINS = set(
    "len range enumerate zip min max sum abs sorted reversed int str bool list tuple dict set isinstance ord repr any"
    " all divmod iter next map super ValueError KeyError TypeError IndexError NotImplemented property staticmethod"
    " classmethod getattr hasattr setattr".split()
)
# An interactive Python, and doctest, set the name _ there.
OF_PYTHON = set(dir(builtins)) - {"_"}
STATEMENTS = (
    ast.Assign, ast.AugAssign, ast.If, ast.While, ast.For, ast.Return, ast.Break, ast.Continue, ast.Pass, ast.Raise,
    ast.Assert, ast.Delete, ast.Nonlocal, ast.Match, ast.Try, ast.Expr, ast.FunctionDef, ast.ClassDef, ast.ImportFrom,
)
NOT_ANYWHERE = set("register mro elements open input law version_info with_traceback add_note".split())
NOT_AS_NAMES = set(
    "attrgetter breakpoint builtins compile copyright credits delattr dir eval exec exit gc globals help id importlib"
    " license locals methodcaller os quit vars sys format".split()
)
NOT_BEGINNINGS = (
    r"^(_wall|_pe_|_dcw_|_enum_|_cm_|_twin_re_|_lay_|_law_|_stub_|_sre|_WallAttr)"
    r"|^(_cold|_tuplegetter|_outside|_record|_written_out|_member_names)[0-9_]*$"
)
NOT_IN_FILES = set(
    "type typing typing_extensions enum Enum IntEnum StrEnum Flag IntFlag Generic Protocol ABC ABCMeta namedtuple"
    " NamedTuple TypedDict TYPE_CHECKING abstractmethod".split()
)
# Of the library, only what a bare call of needs no care: the rows of L2 limit the other modules more.
LIBRARY = {"math": {"gcd"}}
METHODS = set("__init__ __len__ __iter__ __contains__ __and__ __mul__ __call__ __eq__ __repr__ __str__".split())


def docstrings(tree):
    holders = (ast.Module, ast.ClassDef, ast.FunctionDef)
    return [
        node.body[0].value
        for node in ast.walk(tree)
        if isinstance(node, holders) and ast.get_docstring(node) is not None
    ]


def bound_names(node):
    """The names that a function binds: its parameters, targets and nested functions."""
    names = []
    for inner in ast.walk(node):
        if isinstance(inner, ast.arg):
            names.append(inner.arg)
        elif isinstance(inner, ast.Name) and not isinstance(inner.ctx, ast.Load):
            names.append(inner.id)
        elif isinstance(inner, ast.FunctionDef) and inner is not node:
            names.append(inner.name)
        elif isinstance(inner, ast.ExceptHandler) and inner.name:
            names.append(inner.name)
    return names


MODIFYING = set("append clear extend insert pop remove reverse setdefault update add discard sort".split())


def same_things(function):
    """For each name or attribute of a function, all names that plain assignments make the same thing, as sets."""
    groups = []
    for node in ast.walk(function):
        if isinstance(node, ast.Assign) and isinstance(node.value, (ast.Name, ast.Attribute)):
            written = {ast.unparse(part) for part in [node.value, *node.targets]}
            joined = [group for group in groups if group & written]
            groups = [group for group in groups if group not in joined] + [written.union(*joined)]
    return {name: group for group in groups for name in group}


def walked(loop):
    """The names and attributes that a loop goes over, itself or through enumerate, zip, reversed or items."""
    parts = [loop.iter]
    if isinstance(loop.iter, ast.Call):
        parts = []
        if isinstance(loop.iter.func, ast.Attribute):
            parts = [loop.iter.func.value]
        elif loop.iter.func.id in ("enumerate", "zip", "reversed"):
            parts = loop.iter.args
    return [ast.unparse(part) for part in parts if isinstance(part, (ast.Name, ast.Attribute, ast.Subscript))]


def changed(loop):
    """What the rows of a loop change: lists and dicts by their methods, or their items."""
    found = []
    for node in ast.walk(loop):
        if isinstance(node, ast.Call) and isinstance(node.func, ast.Attribute) and node.func.attr in MODIFYING:
            found.append(ast.unparse(node.func.value))
        if isinstance(node, ast.Subscript) and not isinstance(node.ctx, ast.Load):
            found.append(ast.unparse(node.value))
    return found


def loops_that_change_what_they_walk(tree):
    found = []
    for function in ast.walk(tree):
        if isinstance(function, ast.FunctionDef):
            same = same_things(function)
            for loop in ast.walk(function):
                if isinstance(loop, ast.For):
                    for name in walked(loop):
                        if same.get(name, {name}) & set(changed(loop)):
                            found.append(loop.lineno)
    return found


def parents_in(tree):
    return {child: node for node in ast.walk(tree) for child in ast.iter_child_nodes(node)}


def is_call_of(node, names):
    return isinstance(node, ast.Call) and isinstance(node.func, ast.Name) and node.func.id in names


def sets_out_of_place(tree):
    """The lines of sets that are not sorted, counted, compared or tested on the spot."""
    parents = parents_in(tree)
    found = []
    for node in ast.walk(tree):
        if isinstance(node, (ast.Set, ast.SetComp)) or is_call_of(node, {"set", "frozenset"}):
            parent = parents[node]
            if not is_call_of(parent, {"sorted", "len"}) and not isinstance(parent, ast.Compare):
                found.append(node.lineno)
    return found


AT_ONCE = set("list tuple dict sorted sum any all min max enumerate zip".split())


def kept_iterations(tree):
    """The lines of zip(..), enumerate(..), reversed(..) and views that are not iterated on the spot."""
    parents = parents_in(tree)
    found = []
    for node in ast.walk(tree):
        is_view = isinstance(node, ast.Call) and isinstance(node.func, ast.Attribute) and node.func.attr in (
            "items", "keys", "values"
        )
        if is_view or is_call_of(node, {"zip", "enumerate", "reversed"}):
            parent = parents[node]
            is_walked = isinstance(parent, (ast.For, ast.comprehension)) and parent.iter is node
            if not is_walked and not is_call_of(parent, AT_ONCE):
                found.append(node.lineno)
    return found


def methods_and_attributes(trees):
    """For each class, the names of its methods and of the attributes that its methods assign to their own object."""
    found = {}
    for tree in trees:
        for node in tree.body:
            if isinstance(node, ast.ClassDef):
                methods = {item.name for item in node.body if isinstance(item, ast.FunctionDef)}
                attributes = {
                    inner.attr
                    for inner in ast.walk(node)
                    if isinstance(inner, ast.Attribute) and isinstance(inner.ctx, ast.Store)
                }
                found[node.name] = (methods, attributes)
    return found


class Files(unittest.TestCase):
    def trees(self):
        for path in FILES:
            yield path, ast.parse(path.read_text(encoding="utf-8"))

    def test_files_and_characters(self):
        self.assertLessEqual(len(FILES), 100)
        self.assertIn(PACKAGE / "__init__.py", FILES)
        for path in FILES:
            self.assertTrue(path.is_file(), path)
            self.assertRegex(path.name, r"^(__init__|__main__|[a-z][a-z0-9_]*)\.py$", "L1, L14")
            lines = path.read_bytes().split(b"\n")
            self.assertLessEqual(len(lines), 400, f"L10 {path}")
            for number, line in enumerate(lines, 1):
                self.assertLessEqual(len(line), 120, f"L10 {path}:{number}")
                self.assertTrue(all(32 <= code < 127 for code in line), f"L14 {path}:{number}")

    def test_sizes_of_functions(self):
        for path, tree in self.trees():
            for node in ast.walk(tree):
                if isinstance(node, ast.FunctionDef):
                    self.assertLessEqual(node.end_lineno - node.lineno + 1, 40, f"L10 {path}:{node.lineno}")

    def test_imports(self):
        needed = {}
        for path, tree in self.trees():
            needed[f"everypast.{path.stem}"] = []
            for node in ast.walk(tree):
                self.assertNotIsInstance(node, ast.Import, f"L16 {path}")
                if isinstance(node, ast.ImportFrom):
                    self.assertIn(node, tree.body, f"L2 {path}:{node.lineno}")
                    if node.module in LIBRARY:
                        self.assertLessEqual({alias.name for alias in node.names}, LIBRARY[node.module], f"L2 {path}")
                        continue
                    self.assertTrue(node.module.startswith("everypast.") and node.level == 0, f"L2 {path}")
                    source = ast.parse((PACKAGE / (node.module.split(".")[1] + ".py")).read_text(encoding="utf-8"))
                    defined = [item.name for item in source.body if isinstance(item, (ast.FunctionDef, ast.ClassDef))]
                    defined += [item.targets[0].id for item in source.body if isinstance(item, ast.Assign)]
                    for alias in node.names:
                        self.assertIsNone(alias.asname)
                        self.assertIn(alias.name, defined, f"L16 {path}:{node.lineno}")
                    needed[f"everypast.{path.stem}"].append(node.module)
        while needed:
            free = [name for name in needed if not any(other in needed for other in needed[name])]
            self.assertTrue(free, f"L16: these import from each other: {sorted(needed)}")
            for name in free:
                del needed[name]

    def test_statements_and_expressions(self):
        for path, tree in self.trees():
            for node in ast.walk(tree):
                place = f"{path}:{getattr(node, 'lineno', 0)}"
                if isinstance(node, ast.stmt):
                    self.assertIsInstance(node, STATEMENTS, f"L6 {place}")
                if isinstance(node, ast.Compare) and any(isinstance(sign, (ast.Is, ast.IsNot)) for sign in node.ops):
                    self.assertIsInstance(node.comparators[0], ast.Constant, f"L20 {place}")
                if isinstance(node, ast.Constant):
                    self.assertIsInstance(node.value, (int, str, type(None)), f"L7 {place}")
                    if isinstance(node.value, str) and node not in docstrings(tree):
                        self.assertNotIn("%", node.value, f"L27 {place}")
                if isinstance(node, ast.BinOp):
                    self.assertNotIsInstance(node.op, ast.Div, f"L7 {place}")
                self.assertNotIsInstance(node, (ast.AsyncFunctionDef, ast.Await, ast.Global, ast.With), f"L6 {place}")
                if isinstance(node, ast.FunctionDef):
                    allowed = ("property", "staticmethod", "classmethod")
                    self.assertTrue(all(getattr(mark, "id", "") in allowed for mark in node.decorator_list), place)
                    if node.name.startswith("__"):
                        self.assertIn(node.name, METHODS, f"L5 {place}")

    def test_loops(self):
        for path, tree in self.trees():
            self.assertEqual(loops_that_change_what_they_walk(tree), [], f"L23 {path}")

    def test_the_test_of_loops(self):
        head = ["def told(xs):", "    border = xs", "    later = []"]
        text = "\n".join([*head, "    for x in {}:", "        {}", "    border = later"])
        for walk, row, wrong in (
            ("border", "later.append(x)", True), ("enumerate(border)", "xs.append(x)", True),
            ("xs.items()", "border[x] = 1", True), ("border", "del later[0]", True),
            ("list(border)", "later.append(x)", False), ("border", "other.append(x)", False),
        ):
            tree = ast.parse(text.format(walk, row))
            self.assertEqual(loops_that_change_what_they_walk(tree), [4] if wrong else [], (walk, row))

    def test_sets_and_iterations(self):
        for path, tree in self.trees():
            self.assertEqual(sets_out_of_place(tree), [], f"L24 {path}")
            self.assertEqual(kept_iterations(tree), [], f"L23 {path}")

    def test_the_tests_of_sets_and_iterations(self):
        for text, wrong in (
            ("sorted(set(a))", 0), ("len({b for b in a})", 0), ("b in {1, 2}", 0), ("set(a) == set(b)", 0),
            ("list(set(a))", 1), ("for b in set(a): pass", 1), ("f({1})", 1), ("c = set()", 1),
        ):
            self.assertEqual(len(sets_out_of_place(ast.parse(text))), wrong, text)
        for text, wrong in (
            ("for b in zip(a, a): pass", 0), ("[b for b in a.items()]", 0), ("dict(zip(a, a))", 0), ("b = zip(a, a)", 1),
            ("f(a.keys())", 1), ("len(enumerate(a))", 1), ("reversed(a)[0]", 1), ("list(enumerate(a))", 0),
        ):
            self.assertEqual(len(kept_iterations(ast.parse(text))), wrong, text)

    def test_methods_and_attributes(self):
        found = methods_and_attributes([tree for _, tree in self.trees()])
        methods = set().union(*[names for names, _ in found.values()])
        attributes = set().union(*[names for _, names in found.values()])
        # L18 lets different classes use a name both ways; here none does.
        self.assertEqual(methods & attributes, set())
        # L26.
        self.assertFalse(attributes & set("items keys values args encode decode hex format".split()) | MODIFYING & methods)

    def test_lengths(self):
        for path, tree in self.trees():
            for node in ast.walk(tree):
                if isinstance(node, ast.FunctionDef) and node.name in ("__len__", "__iter__"):
                    row = node.body[-1]
                    self.assertEqual((len(node.body), type(row)), (1, ast.Return), f"L5, L28 {path}:{node.lineno}")
                    self.assertTrue(is_call_of(row.value, {"len", "iter"}), f"L5, L28 {path}:{node.lineno}")

    def test_module_level(self):
        for path, tree in self.trees():
            names = []
            for node in tree.body:
                if isinstance(node, ast.Expr):
                    self.assertIn(node.value, docstrings(tree), f"L3 {path}:{node.lineno}")
                elif isinstance(node, ast.ImportFrom):
                    names.extend([alias.name for alias in node.names])
                elif isinstance(node, (ast.FunctionDef, ast.ClassDef)):
                    names.append(node.name)
                else:
                    self.assertIsInstance(node, ast.Assign, f"L3 {path}:{node.lineno}")
                    names.append(node.targets[0].id)
            self.assertEqual(len(names), len(set(names)), f"L15 {path}")

    def test_names(self):
        for path, tree in self.trees():
            fixed = [item.name for item in tree.body if isinstance(item, ast.ClassDef)]
            fixed += [alias.name for item in tree.body if isinstance(item, ast.ImportFrom) for alias in item.names]
            for node in ast.walk(tree):
                place = f"{path}:{getattr(node, 'lineno', 0)}"
                if isinstance(node, ast.FunctionDef):
                    for name in bound_names(node):
                        self.assertNotIn(name, fixed, f"L15 {place}")
                        self.assertNotIn(name, OF_PYTHON, f"L15 {place}")
                        self.assertNotIn(name, NOT_AS_NAMES, f"L17 {place}")
                if isinstance(node, (ast.FunctionDef, ast.ClassDef)):
                    self.assertNotIn(node.name, OF_PYTHON, f"L15 {place}")
                if isinstance(node, ast.Name) and isinstance(node.ctx, ast.Load) and node.id in OF_PYTHON:
                    self.assertIn(node.id, BUILTINS, f"L8 {place}")

    def test_words(self):
        for path, tree in self.trees():
            text = path.read_text(encoding="utf-8")
            for word in ("dataclass", "overload", "contextmanager", "_wall" + "Attr"):
                self.assertNotIn(word, text, f"L17 {path}")
            self.assertIsNone(re.search(r"\b_wall\b|\b_WallAttr\b", text), f"L12 {path}")
            for node in ast.walk(tree):
                words = []
                for field in ("id", "attr", "arg", "name"):
                    if isinstance(getattr(node, field, None), str):
                        words.append(getattr(node, field))
                for word in words:
                    self.assertNotIn(word, NOT_ANYWHERE | NOT_IN_FILES, f"L17 {path}:{getattr(node, 'lineno', 0)}")
                    self.assertRegex(word, r"^(_?[A-Za-z][A-Za-z0-9_]*|_|__[a-z]+__)$", f"L12 {path}")
                    self.assertNotRegex(word, NOT_BEGINNINGS, f"L12 {path}")
                if isinstance(node, ast.Constant) and isinstance(node.value, str) and node not in docstrings(tree):
                    for word in re.findall(r"\w+", node.value):
                        self.assertNotIn(word, NOT_IN_FILES, f"L17 {path}:{node.lineno}")


if __name__ == "__main__":
    unittest.main()
