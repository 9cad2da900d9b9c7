"""Rules of the language subset that a program can look at: L1 to L28, as far as they go here."""

import ast
import pathlib
import unittest

PACKAGE = pathlib.Path(__file__).resolve().parent.parent / "guestsalone"
FILES = sorted(PACKAGE.glob("*.py"))
BUILTINS = set(
    "len range enumerate zip min max sum abs sorted reversed int str bool list tuple dict set isinstance ord repr any"
    " all divmod iter next map Exception ValueError TypeError KeyError IndexError LookupError ZeroDivisionError".split()
)
PYTHONS = set(dir(__builtins__) if not isinstance(__builtins__, dict) else __builtins__)
METHODS = set(
    "append clear copy count endswith extend find get index insert isalnum isalpha isdigit islower isspace isupper"
    " items join keys ljust lower lstrip partition pop remove replace reverse rfind rjust rpartition rsplit rstrip"
    " setdefault split splitlines startswith strip update upper values zfill bit_length add discard".split()
)
DOUBLE = {"__init__", "__eq__", "__repr__", "__str__", "__len__"}
BARRED = set(
    "register mro elements open input law version_info with_traceback add_note attrgetter breakpoint builtins compile"
    " copyright credits delattr dir eval exec exit gc getattr globals hasattr help id importlib license locals"
    " methodcaller os quit setattr super type vars sys typing enum Enum ABC namedtuple NamedTuple Protocol Generic"
    " Flag".split()
)
# None of these is a name, also not with figures or strokes behind it.
OUTSIDE = r"^(_cold|_tuplegetter|_outside|_record|_written_out|_member_names)[0-9_]*$"
STARTS = ("_wall", "_pe_", "_dcw_", "_enum_", "_cm_", "_twin_re_", "_lay_", "_law_", "_stub_", "_sre")
AT_ONCE = {"zip", "enumerate", "reversed", "range", "map"}
STATEMENTS = (ast.Global, ast.AsyncFunctionDef, ast.AsyncFor, ast.AsyncWith, ast.Await, ast.TryStar)


def parents_of(tree):
    return {child: node for node in ast.walk(tree) for child in ast.iter_child_nodes(node)}


def bound(node):
    """The names that a node binds."""
    if isinstance(node, (ast.FunctionDef, ast.ClassDef)):
        return [node.name]
    if isinstance(node, ast.arg):
        return [node.arg]
    if isinstance(node, ast.Name) and not isinstance(node.ctx, ast.Load):
        return [node.id]
    if isinstance(node, ast.ExceptHandler):
        return [node.name] if node.name else []
    if isinstance(node, ast.ImportFrom):
        return [found.asname or found.name for found in node.names]
    return []


class LanguageTest(unittest.TestCase):
    def each(self, *kinds):
        for path in FILES:
            tree = ast.parse(path.read_text())
            for node in ast.walk(tree):
                if isinstance(node, kinds or ast.AST):
                    yield f"{path.name}:{getattr(node, 'lineno', 0)}", node

    def test_files(self):
        self.assertTrue(FILES)
        others = [path.name for path in PACKAGE.iterdir() if path.suffix != ".py" and path.name != "__pycache__"]
        self.assertEqual(others, [])
        self.assertTrue((PACKAGE / "__init__.py").exists())
        for path in FILES:
            text = path.read_text()
            self.assertTrue(path.stem == path.stem.lower())
            self.assertTrue(all(sign == "\n" or " " <= sign <= "~" for sign in text), path.name)
            self.assertTrue(text.endswith("\n") and not text.endswith("\n\n"), path.name)
            self.assertLessEqual(len(text.splitlines()), 399, path.name)
            for line in text.splitlines():
                self.assertLessEqual(len(line), 120, (path.name, line))
                self.assertEqual(line, line.rstrip(), path.name)

    def test_imports(self):
        imports = {}
        for place, node in self.each(ast.Import, ast.ImportFrom):
            self.assertIsInstance(node, ast.ImportFrom, place)
            self.assertEqual(node.level, 0, place)
            self.assertRegex(node.module, r"^guestsalone\.\w+$", place)
            file = PACKAGE / (node.module.split(".")[1] + ".py")
            defined = [name for top in ast.parse(file.read_text()).body for name in
                       ([top.name] if hasattr(top, "name") else [goal.id for goal in getattr(top, "targets", [])])]
            for found in node.names:
                self.assertIn(found.name, defined, place)
            imports.setdefault(place.split(":")[0][:-3], set()).add(node.module.split(".")[1])
        self.assertEqual(self.ordered(imports), set(imports))

    def ordered(self, imports):
        """The files whose imports lead to no circle."""
        done = set()
        while True:
            more = {name for name in imports if name not in done and all(
                other in done or other not in imports for other in imports[name])}
            if not more:
                return done
            done |= more

    def test_module_level(self):
        for path in FILES:
            body = ast.parse(path.read_text()).body
            names = [name for node in body for name in
                     (bound(node) or [goal.id for goal in getattr(node, "targets", [])])]
            self.assertEqual(len(names), len(set(names)), path.name)
            for node in body:
                doc = isinstance(node, ast.Expr) and isinstance(node.value, ast.Constant)
                self.assertTrue(doc or isinstance(node, (ast.ImportFrom, ast.FunctionDef, ast.ClassDef, ast.Assign)))
            seen = set()
            for node in body:
                if isinstance(node, ast.Assign):
                    for found in ast.walk(node.value):
                        self.assertNotIsInstance(found, (ast.Call, ast.ListComp, ast.Set, ast.Lambda), path.name)
                        if isinstance(found, ast.Name):
                            self.assertIn(found.id, seen, path.name)
                seen.update(bound(node))

    def test_functions_are_short_and_plain(self):
        for place, node in self.each(ast.FunctionDef):
            self.assertLessEqual(node.end_lineno - node.lineno + 1, 40, place)
            self.assertEqual(node.decorator_list, [], place)
            if node.name.startswith("__"):
                self.assertIn(node.name, DOUBLE, place)

    def test_statements(self):
        for place, node in self.each(*STATEMENTS):
            self.fail(place)
        for place, node in self.each(ast.Constant):
            self.assertNotIsInstance(node.value, (float, complex), place)
        for place, node in self.each(ast.Div):
            self.fail(place)
        for place, node in self.each(ast.BinOp):
            self.assertNotIsInstance(node.op, ast.Pow, place)

    def test_names(self):
        for place, node in self.each():
            for name in bound(node):
                self.assertNotIn(name, BARRED, place)
                if name not in DOUBLE:
                    self.assertRegex(name, r"^_?[A-Za-z]\w*$|^_$", place)
                    self.assertFalse(name.startswith(STARTS), place)
                    self.assertNotRegex(name, OUTSIDE, place)
            if isinstance(node, ast.Name) and isinstance(node.ctx, ast.Load):
                self.assertNotEqual(node.id, "_", place)

    def test_no_name_of_a_builtin_or_an_import_is_given_another_meaning(self):
        for path in FILES:
            tree = ast.parse(path.read_text())
            parents = parents_of(tree)
            heads = [node for node in tree.body if isinstance(node, (ast.ImportFrom, ast.ClassDef))]
            tops = {name for node in heads for name in bound(node)}
            for node in ast.walk(tree):
                if node in heads:
                    continue
                if isinstance(node, ast.FunctionDef) and isinstance(parents[node], ast.ClassDef):
                    continue
                for name in bound(node):
                    self.assertNotIn(name, PYTHONS, path.name)
                    self.assertNotIn(name, tops, path.name)

    def test_builtins(self):
        for path in FILES:
            tree = ast.parse(path.read_text())
            known = {name for node in ast.walk(tree) for name in bound(node)}
            for node in ast.walk(tree):
                if isinstance(node, ast.Name) and node.id not in known:
                    self.assertIn(node.id, BUILTINS, path.name)

    def test_methods(self):
        own = {node.name for _, node in self.each(ast.FunctionDef)}
        for place, node in self.each(ast.Call):
            if isinstance(node.func, ast.Attribute):
                self.assertIn(node.func.attr, METHODS | own | {"__init__"}, place)

    def test_what_is_iterated_at_once(self):
        for path in FILES:
            tree = ast.parse(path.read_text())
            parents = parents_of(tree)
            for node in ast.walk(tree):
                if not isinstance(node, ast.Call):
                    continue
                named = isinstance(node.func, ast.Name) and node.func.id in AT_ONCE
                if named or (isinstance(node.func, ast.Attribute) and node.func.attr in ("items", "keys", "values")):
                    holder = parents[node]
                    taken = isinstance(holder, ast.Call) and getattr(holder.func, "id", "") in (
                        "list", "tuple", "dict", "sorted", "enumerate", "zip")
                    self.assertTrue(taken or isinstance(holder, (ast.For, ast.comprehension)), (path.name, node.lineno))

    def test_no_generator_expressions_and_no_sets_that_are_kept(self):
        for place, node in self.each(ast.GeneratorExp, ast.Yield, ast.YieldFrom):
            self.fail(place)
        for path in FILES:
            tree = ast.parse(path.read_text())
            parents = parents_of(tree)
            for node in ast.walk(tree):
                if isinstance(node, (ast.Set, ast.SetComp)):
                    self.assertIn(getattr(getattr(parents[node], "func", None), "id", ""), ("sorted", "len"), path.name)

    def test_strings(self):
        for place, node in self.each(ast.Constant):
            if isinstance(node.value, str):
                self.assertNotIn("%", node.value, place)
                self.assertFalse(node.value.endswith(("._", ".__")), place)
                self.assertNotRegex(node.value, r"\btype\b|dataclass|overload|contextmanager", place)

    def test_patterns_are_plain_and_the_last_case_takes_everything(self):
        for place, node in self.each(ast.Match):
            for case in node.cases[:-1]:
                self.assertIsInstance(case.pattern, ast.MatchValue, place)
                self.assertIsInstance(case.pattern.value, ast.Constant, place)
            self.assertIsInstance(node.cases[-1].pattern, ast.MatchAs, place)

    def test_what_stands_behind_a_star_is_a_name(self):
        for place, node in self.each(ast.Starred):
            self.assertIsInstance(node.value, ast.Name, place)

    def test_tables_at_module_level_are_read_alone(self):
        for path in FILES:
            tree = ast.parse(path.read_text())
            tables = [goal.id for node in tree.body if isinstance(node, ast.Assign) and isinstance(node.value, ast.Dict)
                      for goal in node.targets]
            parents = parents_of(tree)
            for node in ast.walk(tree):
                if isinstance(node, ast.Name) and node.id in tables and isinstance(node.ctx, ast.Load):
                    self.assertIsInstance(parents[node], (ast.Subscript, ast.Compare), (path.name, node.lineno))

    def test_classes(self):
        for place, node in self.each(ast.ClassDef):
            self.assertEqual(node.decorator_list + node.keywords, [], place)
            methods = [found.name for found in node.body if isinstance(found, ast.FunctionDef)]
            self.assertEqual(len(methods), len(set(methods)), place)
            attributes = {found.attr for found in ast.walk(node) if isinstance(found, ast.Attribute)
                          and isinstance(found.ctx, ast.Store)}
            self.assertEqual(attributes & set(methods), set(), place)

    def test_attributes_are_assigned_through_a_local_name_and_are_no_methods(self):
        own = {found.name for _, node in self.each(ast.ClassDef) for found in node.body
               if isinstance(found, ast.FunctionDef)}
        for place, node in self.each(ast.Attribute):
            self.assertNotRegex(node.attr, OUTSIDE, place)
            if isinstance(node.ctx, ast.Store):
                self.assertIsInstance(node.value, ast.Name, place)
                self.assertNotIn(node.attr, own, place)

    def test_double_underscore_methods_assign_nothing(self):
        for place, node in self.each(ast.FunctionDef):
            if node.name in ("__eq__", "__len__"):
                for found in ast.walk(node):
                    self.assertNotIsInstance(found, (ast.Assign, ast.AugAssign, ast.NamedExpr, ast.Delete), place)
                last = node.body[-1]
                self.assertIsInstance(last, ast.Return, place)
                if node.name == "__len__":
                    self.assertRegex(ast.unparse(last), r"^return len\(.*\)$", place)

    def test_errors_are_raised_on_the_spot_and_own_ones_are_caught(self):
        for path in FILES:
            tree = ast.parse(path.read_text())
            handled = [row for node in ast.walk(tree) if isinstance(node, ast.ExceptHandler) for row in node.body]
            for node in ast.walk(tree):
                if isinstance(node, ast.Raise) and not (node.exc is None and node in handled):
                    self.assertIsInstance(node.exc, ast.Call, (path.name, node.lineno))
                    self.assertRegex(node.exc.func.id, r"^[A-Z]", (path.name, node.lineno))
        for place, node in self.each(ast.ExceptHandler):
            names = node.type.elts if isinstance(node.type, ast.Tuple) else [node.type]
            for name in names:
                self.assertNotIn(name.id, PYTHONS, place)

    def test_is(self):
        for place, node in self.each(ast.Compare):
            for sign, other in zip(node.ops, node.comparators):
                if isinstance(sign, (ast.Is, ast.IsNot)):
                    self.assertIsInstance(other, ast.Constant, place)

    def test_every_attribute_that_is_read_is_assigned(self):
        stored = {node.attr for _, node in self.each(ast.Attribute) if isinstance(node.ctx, ast.Store)}
        own = {node.name for _, node in self.each(ast.FunctionDef)}
        for place, node in self.each(ast.Attribute):
            self.assertIn(node.attr, stored | own | METHODS, place)


if __name__ == "__main__":
    unittest.main()
