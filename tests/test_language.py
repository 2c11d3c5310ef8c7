"""The files of the package keep to the plainest rules of the subset of Python in which it is written."""

import ast
import builtins
import pathlib
import unittest

PACKAGE = pathlib.Path(__file__).resolve().parent.parent / "onehostmore"
FILES = sorted(PACKAGE.rglob("*.py"))
TREES = {path: ast.parse(path.read_text(encoding="utf-8")) for path in FILES}
NODES = [(path, node) for path in FILES for node in ast.walk(TREES[path])]

BUILTINS = """len range enumerate zip min max sum abs sorted reversed int str bool bytes list tuple dict set frozenset
    isinstance ord repr any all divmod pow Exception ValueError TypeError KeyError IndexError LookupError
    ZeroDivisionError ArithmeticError OverflowError RuntimeError NotImplementedError AttributeError StopIteration
    NotImplemented property staticmethod classmethod map""".split()
METHODS = """append clear copy count endswith extend find get index insert isalnum isalpha isdigit islower isspace isupper
    items join keys ljust lower lstrip partition pop remove replace reverse rfind rjust rpartition rsplit rstrip
    setdefault split splitlines startswith strip update upper values zfill bit_length add discard""".split()
LIBRARY = {"heapq", "math", "itertools", "collections"}
BARRED = {"register", "mro", "elements", "open", "input", "law", "version_info", "with_traceback", "add_note"}
DOUBLE = {"__init__", "__eq__", "__repr__", "__str__", "__len__", "__enter__", "__exit__", "__call__", "__iter__",
          "__contains__", "__getitem__", "__setitem__", "__iadd__", "__lt__", "__bool__"}
OUTSIDE = (ast.AsyncFor, ast.AsyncFunctionDef, ast.AsyncWith, ast.Await, ast.Global, ast.Div, ast.MatMult,
           ast.NamedExpr, ast.AnnAssign)


# What these change, their users mean to be changed; all other operators, and properties, change nothing.
CHANGING = {"__init__", "__iadd__", "__setitem__"}


def stars_in_indexes(tree):
    """The subscripts of a tree that have a star within their brackets."""
    return [node for node in ast.walk(tree) if isinstance(node, ast.Subscript)
            and any(isinstance(part, ast.Starred) for part in ast.walk(node.slice))]


class Language(unittest.TestCase):

    def each(self, kind):
        return [(path, node) for path, node in NODES if isinstance(node, kind)]

    def where(self, path, node):
        return f"{path.name}:{node.lineno}: {ast.unparse(node)}"

    def test_files(self):
        self.assertTrue(FILES)
        self.assertTrue((PACKAGE / "__init__.py").exists())
        for path in PACKAGE.rglob("*"):
            if "__pycache__" not in path.parts and path.is_file():
                self.assertEqual(path.suffix, ".py", path)
                self.assertEqual(path.name, path.name.lower())

    def test_characters_and_sizes(self):
        for path in FILES:
            text = path.read_text(encoding="utf-8")
            self.assertEqual([sign for sign in text if sign != "\n" and not " " <= sign <= "~"], [], path)
            lines = text.split("\n")
            self.assertLess(len(lines), 400, path)
            self.assertLessEqual(max(map(len, lines)), 120, path)
        for path, node in self.each(ast.FunctionDef):
            self.assertLessEqual(node.end_lineno - node.lineno + 1, 40, self.where(path, node))

    def test_module_level(self):
        for path in FILES:
            for at, node in enumerate(TREES[path].body):
                if isinstance(node, ast.Assign):
                    self.check_value(node.value, [part.name for part in TREES[path].body[:at]
                                                  if isinstance(part, ast.FunctionDef)])
                elif isinstance(node, ast.Expr):
                    self.assertTrue(at == 0 and isinstance(node.value.value, str), self.where(path, node))
                else:
                    self.assertIsInstance(node, (ast.ImportFrom, ast.FunctionDef, ast.ClassDef))

    def check_value(self, value, functions):
        """A plain value, or a dict of plain values and of functions defined above."""
        if isinstance(value, ast.Dict):
            for key, part in zip(value.keys, value.values):
                ast.literal_eval(key)
                if isinstance(part, ast.Name):
                    self.assertIn(part.id, functions)
                else:
                    ast.literal_eval(part)
        else:
            ast.literal_eval(value)

    def test_imports(self):
        self.assertEqual(self.each(ast.Import), [])
        for path, node in self.each(ast.ImportFrom):
            self.assertIn(node, TREES[path].body)
            self.assertEqual(node.level, 0)
            if node.module not in LIBRARY:
                target = PACKAGE / (node.module.removeprefix("onehostmore.") + ".py")
                self.assertIn(target, FILES)
                defined = [part.name for part in TREES[target].body if isinstance(part, (ast.FunctionDef, ast.ClassDef))]
                for alias in node.names:
                    self.assertIn(alias.name, defined)
                    self.assertIsNone(alias.asname)

    def test_names(self):
        bound = [node.id for _, node in self.each(ast.Name) if not isinstance(node.ctx, ast.Load)]
        bound += [node.arg for _, node in self.each(ast.arg)]
        bound += [node.name for _, node in self.each((ast.FunctionDef, ast.ClassDef))]
        for name in bound:
            self.assertNotIn(name, vars(builtins))
            self.assertNotIn(name, BARRED)
            self.assertTrue(not name.startswith("__") or name in DOUBLE, name)
        for path, node in self.each(ast.Name):
            if node.id in vars(builtins):
                self.assertIn(node.id, BUILTINS, self.where(path, node))

    def test_names_of_imports_and_classes_mean_nothing_else(self):
        for path in FILES:
            taken = [alias.name for node in TREES[path].body if isinstance(node, ast.ImportFrom) for alias in node.names]
            classes = [node.name for node in TREES[path].body if isinstance(node, ast.ClassDef)]
            self.assertEqual(len(set(taken)), len(taken), path)
            inner = [node.id for node in ast.walk(TREES[path]) if isinstance(node, ast.Name)
                     and not isinstance(node.ctx, ast.Load)]
            inner += [node.arg for node in ast.walk(TREES[path]) if isinstance(node, ast.arg)]
            self.assertEqual(set(inner) & {*taken, *classes}, set(), path)
            level = [node.name for node in TREES[path].body if isinstance(node, (ast.FunctionDef, ast.ClassDef))]
            level += [node.targets[0].id for node in TREES[path].body if isinstance(node, ast.Assign)]
            self.assertEqual(len({*level, *taken}), len(level) + len(taken), path)

    def test_imports_go_one_way(self):
        needs = {path: {PACKAGE / (node.module.removeprefix("onehostmore.") + ".py") for node in TREES[path].body
                        if isinstance(node, ast.ImportFrom)} & set(FILES) for path in FILES}
        for path in FILES:
            reached, waiting = set(), [path]
            while waiting:
                for other in needs[waiting.pop()] - reached:
                    reached.add(other)
                    waiting.append(other)
            self.assertNotIn(path, reached)

    def test_is_and_exponents(self):
        for path, node in self.each(ast.Compare):
            for sign, part in zip(node.ops, node.comparators):
                if isinstance(sign, (ast.Is, ast.IsNot)):
                    self.assertIsInstance(part, ast.Constant, self.where(path, node))
                    self.assertIn(part.value, (None, True, False))
        for path, node in self.each(ast.BinOp):
            if isinstance(node.op, ast.Pow):
                self.assertIsInstance(node.right, ast.Constant, self.where(path, node))

    def test_comprehensions_within_others_have_names_of_their_own(self):
        kinds = (ast.ListComp, ast.SetComp, ast.DictComp)
        for path, outer in self.each((*kinds, ast.Lambda)):
            inner = [node for node in ast.walk(outer) if isinstance(node, kinds) and node is not outer]
            for node in inner:
                names = [part.id for made in node.generators for part in ast.walk(made.target) if isinstance(part, ast.Name)]
                if isinstance(outer, ast.Lambda):
                    above = [part.arg for part in outer.args.args]
                else:
                    above = [part.id for made in outer.generators for part in ast.walk(made.target)
                             if isinstance(part, ast.Name)]
                self.assertEqual(set(names) & set(above) - {"_"}, set(), self.where(path, outer))

    def test_what_is_gone_through_is_not_changed(self):
        """A plain look: no loop calls a method that changes, or assigns an item of, what its head names."""
        changing = {"append", "clear", "extend", "insert", "pop", "remove", "reverse", "setdefault", "update", "add"}
        for path, node in self.each(ast.For):
            heads = {ast.unparse(part) for part in ast.walk(node.iter) if isinstance(part, (ast.Name, ast.Attribute))}
            for part in [inner for row in node.body for inner in ast.walk(row)]:
                if isinstance(part, ast.Call) and isinstance(part.func, ast.Attribute) and part.func.attr in changing:
                    self.assertNotIn(ast.unparse(part.func.value), heads, self.where(path, node))
                if isinstance(part, ast.Subscript) and not isinstance(part.ctx, ast.Load):
                    self.assertNotIn(ast.unparse(part.value), heads, self.where(path, node))

    def test_no_other_nodes(self):
        for path, node in self.each(OUTSIDE):
            self.fail((path.name, ast.dump(node)))
        for path, node in self.each(ast.Constant):
            self.assertNotIsInstance(node.value, (float, complex), self.where(path, node))
            if isinstance(node.value, str):
                self.assertNotIn(chr(37), node.value, self.where(path, node))

    def test_no_star_in_an_index(self):
        for text in ("d[(*a, 1)] = True", "d[*a] = 1", "print(d[b][(1, (*a, 2))])", "x = d[f(*a)]", "del d[(*a,)]",
                     "x = d[[*a][0]]", "x = d[1:max(*a)]"):
            self.assertEqual(len(stars_in_indexes(ast.parse(text))), 1, text)
        for text in ("x = (*a[1:], *b[0])", "d[k] = (*a, 1)", "x = f(*a[0])", "x, *y = a[0]", "x = a[1] * b"):
            self.assertEqual(stars_in_indexes(ast.parse(text)), [], text)
        for path in FILES:
            self.assertEqual([self.where(path, node) for node in stars_in_indexes(TREES[path])], [])

    def test_a_class_with_items_can_not_be_gone_through(self):
        for path, node in self.each(ast.ClassDef):
            methods = {part.name: part for part in node.body if isinstance(part, ast.FunctionDef)}
            if "__getitem__" in methods:
                self.assertIsInstance(methods["__iter__"].body[-1], ast.Raise, self.where(path, node))
            for name in methods:
                self.assertNotIn(name, ("keys", "__hash__"))

    def test_what_operators_and_properties_run_changes_nothing(self):
        named = {}
        for _, node in self.each(ast.FunctionDef):
            named.setdefault(node.name, []).append(node)
        properties = {node.name for _, node in self.each(ast.FunctionDef)
                      if [ast.unparse(part) for part in node.decorator_list] == ["property"]}
        reached, waiting = set(), [*properties, *[name for name in named if name.startswith("__") and name not in CHANGING]]
        while waiting:
            name = waiting.pop()
            for node in named[name] if name not in reached else ():
                used = [part.func.id for part in ast.walk(node) if isinstance(part, ast.Call) and isinstance(part.func, ast.Name)]
                used += [part.attr for part in ast.walk(node) if isinstance(part, ast.Attribute)]
                waiting += [one for one in used if one in named]
                for part in ast.walk(node):
                    self.assertNotIsInstance(part, (ast.AugAssign, ast.Delete), (name, ast.unparse(part)))
                    stored = isinstance(part, ast.Attribute) and not isinstance(part.ctx, ast.Load)
                    self.assertFalse(stored, (name, ast.unparse(part)))
            reached.add(name)
        self.assertTrue({"jobs", "crowd", "there", "crowd_of", "__getitem__", "clashing"} & reached)

    def test_words_that_are_not_used(self):
        words = """typing enum Enum Flag Generic Protocol ABC namedtuple TypedDict dataclass overload contextmanager
            type exit id vars hash dir""".split()
        for path, node in NODES:
            for field in ("id", "attr", "name", "arg"):
                self.assertNotIn(getattr(node, field, None), words, path)

    def test_decorators(self):
        for path, node in self.each((ast.FunctionDef, ast.ClassDef)):
            for decorator in node.decorator_list:
                self.assertIsInstance(node, ast.FunctionDef)
                self.assertIn(ast.unparse(decorator), ("property", "staticmethod", "classmethod"))

    def test_methods_that_are_called(self):
        own = {node.name for _, node in self.each(ast.FunctionDef)}
        for path, node in self.each(ast.Call):
            if isinstance(node.func, ast.Attribute):
                self.assertIn(node.func.attr, own | set(METHODS), self.where(path, node))

    def test_sets_and_generators(self):
        # Where a class has an __eq__, any, all, min, max, sum and sorted take lists: there is no generator at all.
        self.assertEqual(self.each((ast.GeneratorExp, ast.Yield, ast.YieldFrom)), [])
        allowed = set()
        for _, node in self.each((ast.Call, ast.BinOp)):
            if isinstance(node, ast.BinOp) and isinstance(node.op, (ast.Sub, ast.BitAnd, ast.BitOr, ast.BitXor)):
                allowed.update((node.left, node.right))
            if isinstance(node, ast.Call) and ast.unparse(node.func) in ("sorted", "len"):
                allowed.update(node.args)
        allowed.update(node.value for _, node in self.each(ast.Assign))
        allowed.update(part for _, node in self.each(ast.Compare) for part in node.comparators)
        for path, node in self.each((ast.Set, ast.SetComp, ast.Call)):
            if not isinstance(node, ast.Call) or ast.unparse(node.func) == "set":
                self.assertIn(node, allowed, self.where(path, node))

    def test_errors(self):
        for path, node in self.each(ast.Raise):
            if node.exc is not None:
                self.assertIsInstance(node.exc, ast.Call, self.where(path, node))
        for path, node in self.each(ast.ExceptHandler):
            self.assertIsNotNone(node.type, self.where(path, node))


if __name__ == "__main__":
    unittest.main()
