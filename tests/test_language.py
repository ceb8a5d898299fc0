"""The subset of Python: those of its rules that can be seen in the tree of a file."""

import ast
import builtins
import pathlib
import unittest

PACKAGE = pathlib.Path(__file__).resolve().parent.parent / "lostplaces"
FILES = sorted(PACKAGE.rglob("*.py"))
LIBRARY = {"math": {"gcd", "lcm", "isqrt", "comb", "perm", "factorial"}}
BUILTINS = set(
    "len range enumerate zip min max sum abs sorted reversed int str bool list tuple dict set "
    "isinstance ord repr any all divmod iter ValueError property staticmethod".split()
)
METHODS = set(
    "append clear copy count endswith extend find get index insert isdigit items join keys "
    "partition pop remove replace reverse setdefault split startswith strip update values "
    "bit_length add discard".split()
)
DUNDERS = {"__init__", "__eq__", "__iter__", "__len__"}
BANNED_NAMES = set(
    "register mro elements open input law version_info with_traceback add_note attrgetter "
    "breakpoint compile copyright credits delattr dir eval exec exit gc getattr globals hasattr "
    "help id importlib license locals methodcaller os quit setattr super type vars sys".split()
)
BANNED_WORDS = ("dataclass", "overload", "contextmanager", "typing", "namedtuple", "_wall")
BANNED_NODES = (
    ast.Global, ast.AsyncFunctionDef, ast.AsyncFor, ast.AsyncWith, ast.Await, ast.Div, ast.MatMult,
    ast.Import, ast.Nonlocal, ast.Match,
)


def trees():
    """Each file of the package with its tree."""
    return [(file.name, ast.parse(file.read_text())) for file in FILES]


def functions_of(tree):
    """All functions and methods of a tree."""
    return [node for node in ast.walk(tree) if isinstance(node, ast.FunctionDef)]


def docstrings_of(tree):
    """The constants of a tree that are docstrings."""
    found = []
    for node in ast.walk(tree):
        if isinstance(node, (ast.Module, ast.ClassDef, ast.FunctionDef)) and node.body:
            first = node.body[0]
            if isinstance(first, ast.Expr) and isinstance(first.value, ast.Constant):
                found.append(first.value)
    return found


def bound_names(tree):
    """All names that a tree assigns or takes as parameters."""
    names = [node.id for node in ast.walk(tree)
             if isinstance(node, ast.Name) and not isinstance(node.ctx, ast.Load)]
    names += [node.arg for node in ast.walk(tree) if isinstance(node, ast.arg)]
    return names


class Files(unittest.TestCase):
    def test_nothing_but_files_of_python(self):
        others = [file for file in PACKAGE.rglob("*")
                  if file.suffix != ".py" and "__pycache__" not in file.parts and file.is_file()]
        self.assertEqual(others, [])

    def test_sizes_and_characters(self):
        for file in FILES:
            text = file.read_text()
            self.assertTrue(all(" " <= sign <= "~" or sign == "\n" for sign in text), file)
            rows = text.split("\n")
            self.assertLessEqual(len(rows), 399, file)
            self.assertLessEqual(max(map(len, rows)), 120, file)
            for word in BANNED_WORDS:
                self.assertNotIn(word, text, file)

    def test_functions_are_small(self):
        for file, tree in trees():
            for node in functions_of(tree):
                self.assertLessEqual(node.end_lineno - node.lineno + 1, 40, (file, node.name))


class Imports(unittest.TestCase):
    def test_from_the_file_that_defines_the_name(self):
        defined = {}
        for file, tree in trees():
            defined["lostplaces." + file[:-3]] = {
                part.name for part in tree.body if isinstance(part, (ast.FunctionDef, ast.ClassDef))
            } | {
                target.id for part in tree.body if isinstance(part, ast.Assign)
                for target in part.targets
            }
        for file, tree in trees():
            for node in ast.walk(tree):
                if isinstance(node, ast.ImportFrom):
                    names = LIBRARY.get(node.module) or defined[node.module]
                    self.assertEqual(node.level, 0)
                    for name in node.names:
                        self.assertIn(name.name, names, file)
                        self.assertIsNone(name.asname)

    def test_no_circles(self):
        needs = {
            "lostplaces." + file[:-3]: [node.module for node in tree.body
                                        if isinstance(node, ast.ImportFrom)]
            for file, tree in trees()
        }
        done = set(LIBRARY)
        while len(done) < len(needs) + len(LIBRARY):
            ready = {name for name in needs if name not in done and done.issuperset(needs[name])}
            self.assertTrue(ready, "files import from each other")
            done |= ready

    def test_each_import_is_used(self):
        for file, tree in trees():
            used = {node.id for node in ast.walk(tree) if isinstance(node, ast.Name)}
            for node in tree.body:
                if isinstance(node, ast.ImportFrom):
                    for name in node.names:
                        self.assertIn(name.name, used, file)


class Names(unittest.TestCase):
    def test_no_name_of_a_builtin(self):
        for file, tree in trees():
            names = bound_names(tree)
            names += [node.name for node in ast.walk(tree)
                      if isinstance(node, (ast.FunctionDef, ast.ClassDef))]
            for name in names:
                self.assertNotIn(name, vars(builtins), file)
                self.assertNotIn(name, BANNED_NAMES, (file, name))
                self.assertTrue(not name.startswith("__") or name in DUNDERS, (file, name))

    def test_no_variable_has_the_name_of_an_import_a_class_or_a_generator(self):
        generators = {
            node.name for _, tree in trees() for node in functions_of(tree)
            if any(isinstance(part, (ast.Yield, ast.YieldFrom)) for part in ast.walk(node))
        }
        for file, tree in trees():
            taken = {name.name for node in tree.body if isinstance(node, ast.ImportFrom)
                     for name in node.names}
            taken |= {node.name for node in tree.body
                      if isinstance(node, (ast.ClassDef, ast.FunctionDef))}
            for name in bound_names(tree):
                self.assertNotIn(name, taken, file)
                self.assertNotIn(name, generators, file)

    def test_builtins_and_methods(self):
        methods = {node.name for _, tree in trees() for cls in ast.walk(tree)
                   if isinstance(cls, ast.ClassDef) for node in functions_of(cls)}
        for file, tree in trees():
            for node in ast.walk(tree):
                if isinstance(node, ast.Name) and node.id in vars(builtins):
                    self.assertIn(node.id, BUILTINS, file)
                if isinstance(node, ast.Call) and isinstance(node.func, ast.Attribute):
                    self.assertIn(node.func.attr, METHODS | methods, file)


CHANGING = set(
    "append clear extend insert pop remove reverse setdefault update add discard".split()
)
WALKED_THROUGH = {"enumerate", "zip", "reversed", "items", "keys", "values"}


def names_in(node):
    """The names that a target or a value gives or takes straight, also in a tuple or a choice."""
    if isinstance(node, ast.Name):
        return [node.id]
    if isinstance(node, (ast.Tuple, ast.List)):
        return [name for part in node.elts for name in names_in(part)]
    if isinstance(node, ast.IfExp):
        return names_in(node.body) + names_in(node.orelse)
    if isinstance(node, ast.BoolOp):
        return [name for part in node.values for name in names_in(part)]
    return []


def one_list(function):
    """For each name of a function all names that assignments may give the same list."""
    same = {}
    for node in ast.walk(function):
        if isinstance(node, ast.Assign):
            names = names_in(node.value) + [name for part in node.targets for name in names_in(part)]
            group = set(names).union(*[same.get(name, set()) for name in names])
            for name in group:
                same[name] = group
    return same


def walked_names(node):
    """The names of the lists that a loop over this value walks."""
    if isinstance(node, ast.Call):
        called = node.func
        if isinstance(called, ast.Attribute) and called.attr in WALKED_THROUGH:
            return names_in(called.value)
        if isinstance(called, ast.Name) and called.id in WALKED_THROUGH:
            return [name for part in node.args for name in walked_names(part)]
        return []
    if isinstance(node, ast.Attribute):
        return [node.attr]
    return names_in(node)


def held_name(node):
    """The name or the field that an item or a method belongs to."""
    while isinstance(node, ast.Subscript):
        node = node.value
    return node.attr if isinstance(node, ast.Attribute) else getattr(node, "id", None)


def changed_names(rows):
    """The names and fields whose lists these rows change."""
    changed = set()
    for row in rows:
        for node in ast.walk(row):
            if isinstance(node, ast.Subscript) and not isinstance(node.ctx, ast.Load):
                changed.add(held_name(node))
            if isinstance(node, ast.AugAssign):
                changed.add(held_name(node.target))
            if isinstance(node, ast.Call) and isinstance(node.func, ast.Attribute):
                if node.func.attr in CHANGING:
                    changed.add(held_name(node.func.value))
    return changed


def changed_while_walked(function):
    """The names that a loop of the function walks and changes, under one name or another."""
    same = one_list(function)
    found = set()
    for node in ast.walk(function):
        if isinstance(node, ast.For):
            walked = walked_names(node.iter)
            walked += [other for name in walked for other in same.get(name, ())]
            found |= changed_names(node.body) & set(walked)
    return found


class Loops(unittest.TestCase):
    """What a loop walks is not changed in it."""

    def test_no_file_changes_what_it_walks(self):
        for file, tree in trees():
            for node in functions_of(tree):
                self.assertEqual(changed_while_walked(node), set(), (file, node.name))

    def test_the_check_sees_what_it_should(self):
        wrong = (
            "for x in xs:\n  xs.append(x)",
            "for x in xs:\n  ys.append(x)\n xs = ys",
            "for k, x in enumerate(xs):\n  if x:\n   ys[k] += x\n xs = ys",
            "for x in self.xs:\n  self.xs.pop()",
            "for x, y in zip(zs, xs if c else zs):\n  xs[0] = y",
            "a, xs = b, ys\n for x in xs:\n  ys[0].append(x)",
        )
        right = (
            "for x in list(xs):\n  ys.append(x)\n xs = ys",
            "for x in xs:\n  ys.append(x)",
            "for k in range(3):\n  xs[k] = 1",
        )
        for rows in wrong:
            tree = ast.parse(f"def f():\n {rows}")
            self.assertNotEqual(changed_while_walked(tree.body[0]), set(), rows)
        for rows in right:
            tree = ast.parse(f"def f():\n {rows}")
            self.assertEqual(changed_while_walked(tree.body[0]), set(), rows)


def kept_sets(function):
    """The names of a function that are assigned a set."""
    return {
        node.targets[0].id for node in ast.walk(function)
        if isinstance(node, ast.Assign) and isinstance(node.targets[0], ast.Name) and (
            isinstance(node.value, (ast.Set, ast.SetComp)) or (
                isinstance(node.value, ast.Call) and getattr(node.value.func, "id", "") == "set"))
    }


def allowed_uses(function, name):
    """The places where the name of a kept set may stand; it is assigned just once."""
    fine = [part for node in ast.walk(function) if isinstance(node, ast.Assign)
            for part in node.targets if getattr(part, "id", "") == name][:1]
    for node in ast.walk(function):
        if isinstance(node, ast.Call):
            called = node.func
            if isinstance(called, ast.Attribute) and called.attr in ("add", "discard"):
                fine.append(called.value)
            if isinstance(called, ast.Name) and called.id in ("len", "sorted"):
                fine += node.args
        if isinstance(node, ast.Compare) and isinstance(node.ops[0], (ast.In, ast.NotIn)):
            fine += node.comparators
    return fine


class Shapes(unittest.TestCase):
    def test_no_barred_statement_or_sign(self):
        for file, tree in trees():
            for node in ast.walk(tree):
                self.assertNotIsInstance(node, BANNED_NODES, file)

    def test_strings_and_numbers(self):
        for file, tree in trees():
            docstrings = docstrings_of(tree)
            for node in ast.walk(tree):
                if isinstance(node, ast.Constant):
                    self.assertNotIsInstance(node.value, (float, complex, bytes), file)
                    if isinstance(node.value, str) and node not in docstrings:
                        self.assertNotIn("%", node.value, file)
                if isinstance(node, ast.BinOp) and isinstance(node.op, ast.Pow):
                    self.assertIsInstance(node.right, ast.Constant, file)
                if isinstance(node, ast.Compare):
                    for sign, right in zip(node.ops, node.comparators):
                        if isinstance(sign, (ast.Is, ast.IsNot)):
                            self.assertIsInstance(right, ast.Constant, file)

    def test_no_generator_expressions(self):
        for file, tree in trees():
            for node in ast.walk(tree):
                self.assertNotIsInstance(node, ast.GeneratorExp, (file, getattr(node, "lineno", 0)))

    def test_sets_are_made_where_they_may_be(self):
        for file, tree in trees():
            allowed = []
            for node in ast.walk(tree):
                if isinstance(node, ast.Call) and isinstance(node.func, ast.Name):
                    if node.func.id in ("sorted", "len"):
                        allowed += node.args
                if isinstance(node, ast.Compare):
                    allowed += node.comparators + [node.left]
                if isinstance(node, ast.Assign):
                    allowed.append(node.value)
            for node in ast.walk(tree):
                made = isinstance(node, (ast.Set, ast.SetComp)) or (
                    isinstance(node, ast.Call) and isinstance(node.func, ast.Name)
                    and node.func.id == "set")
                if made:
                    self.assertIn(node, allowed, (file, node.lineno))

    def test_module_level(self):
        for file, tree in trees():
            for node in tree.body:
                if isinstance(node, ast.Assign):
                    self.assertEqual(len(node.targets), 1, file)
                    ast.literal_eval(node.value)
                elif isinstance(node, ast.Expr):
                    self.assertIsInstance(node.value, ast.Constant, file)
                else:
                    self.assertIsInstance(node, (ast.FunctionDef, ast.ClassDef, ast.ImportFrom), file)

    def test_decorators(self):
        for file, tree in trees():
            for node in ast.walk(tree):
                for part in getattr(node, "decorator_list", []):
                    self.assertIn(part.id, ("property", "staticmethod"), file)

    def test_an_underscore_is_never_read(self):
        for file, tree in trees():
            for node in ast.walk(tree):
                if isinstance(node, ast.Name) and node.id == "_":
                    self.assertIsInstance(node.ctx, ast.Store, (file, node.lineno))

    def test_errors_are_own_ones_by_name(self):
        own = {cls.name for cls in ast.walk(dict(trees())["errors.py"])
               if isinstance(cls, ast.ClassDef)}
        for file, tree in trees():
            for node in ast.walk(tree):
                if isinstance(node, ast.ExceptHandler):
                    self.assertIn(node.type.id, own, file)
                    self.assertIsNone(node.name, file)
                if isinstance(node, ast.Raise):
                    self.assertIn(node.exc.func.id, own, file)
                if isinstance(node, ast.Try):
                    self.assertEqual((node.finalbody, node.orelse), ([], []), file)

    def test_keywords_of_builtins(self):
        allowed = {"sorted": {"key", "reverse"}, "min": {"key", "default"},
                   "max": {"key", "default"}, "enumerate": {"start"}, "sum": {"start"}}
        for file, tree in trees():
            for node in ast.walk(tree):
                if isinstance(node, ast.Call):
                    named = {part.arg for part in node.keywords}
                    if isinstance(node.func, ast.Attribute):
                        self.assertEqual(named, set(), (file, node.lineno))
                    elif node.func.id in vars(builtins):
                        self.assertLessEqual(named, allowed.get(node.func.id, set()), file)

    def test_no_name_is_a_method_and_an_attribute(self):
        methods, assigned, read = set(), set(), set()
        for _, tree in trees():
            for node in ast.walk(tree):
                if isinstance(node, ast.ClassDef):
                    methods |= {part.name for part in functions_of(node)}
                if isinstance(node, ast.Attribute):
                    (read if isinstance(node.ctx, ast.Load) else assigned).add(node.attr)
        self.assertEqual(methods & assigned, set())
        self.assertEqual(read - assigned - methods - METHODS, set())

    def test_kept_sets_are_used_as_they_may_be(self):
        for file, tree in trees():
            for function in functions_of(tree):
                for name in kept_sets(function):
                    uses = [node for node in ast.walk(function)
                            if isinstance(node, ast.Name) and node.id == name]
                    fine = allowed_uses(function, name)
                    self.assertEqual([node.lineno for node in uses if node not in fine], [],
                                     (file, function.name, name))

    def test_each_file_and_function_has_a_docstring(self):
        for file, tree in trees():
            self.assertTrue(ast.get_docstring(tree), file)
            for node in functions_of(tree):
                if node.name not in DUNDERS:
                    self.assertTrue(ast.get_docstring(node), (file, node.name))


if __name__ == "__main__":
    unittest.main()
