"""The rules of LANGUAGE.md that can be seen in the trees of the files: a narrow reading of L1 to L28."""

import ast
import builtins
import io
import pathlib
import tokenize
import unittest

FOLDER = pathlib.Path(__file__).resolve().parent.parent / "bodybars"
LIBRARY = {
    "itertools": {"product", "combinations", "permutations"},
    "math": {"gcd", "lcm", "isqrt", "comb", "perm", "factorial"},
    "heapq": {"heappush", "heappop", "heapify", "heapreplace", "heappushpop"},
}
BUILTINS = set(
    "len range enumerate zip min max sum abs sorted reversed int str bool list tuple dict set isinstance ord repr any"
    " all divmod type ValueError".split()
)
METHODS = set(
    "append clear copy count endswith extend find get index insert isalnum isalpha isdigit islower isspace isupper"
    " items join keys ljust lower lstrip partition pop remove replace reverse rfind rjust rpartition rsplit rstrip"
    " setdefault split splitlines startswith strip update upper values zfill bit_length removeprefix removesuffix"
    " isascii".split()
)
ITERATING = set("list tuple dict sorted sum any all enumerate zip min max".split())
ONCE = {"zip", "enumerate", "reversed", "range"}
VIEWS = {"items", "keys", "values"}
CHANGING = set("append pop insert remove extend clear sort reverse setdefault update add discard".split())
BARRED = set(
    "register mro elements open input law version_info with_traceback add_note attrgetter breakpoint builtins compile"
    " copyright credits delattr dir eval exec exit gc getattr globals hasattr help id importlib license locals"
    " methodcaller os quit setattr super vars sys typing typing_extensions enum Enum IntEnum StrEnum Flag IntFlag"
    " Generic Protocol ABC ABCMeta namedtuple NamedTuple TypedDict TYPE_CHECKING abstractmethod chr eval"
    " as_integer_ratio bit_count conjugate from_bytes is_integer to_bytes".split()
)
FILE_NAMES_BARRED = BARRED | set(dir(builtins)) | {"test", "tests", "testing", "site", "conftest", "heapq", "math"}
NODES = set(
    "Module Expr Constant ImportFrom alias FunctionDef arguments arg ClassDef Assign AugAssign Return If While For"
    " Break Continue Pass Raise Name Attribute Subscript Slice Call keyword Starred Tuple List Dict ListComp DictComp"
    " GeneratorExp comprehension Lambda IfExp BoolOp And Or UnaryOp Not USub BinOp Add Sub Mult FloorDiv Mod Pow"
    " Compare Eq NotEq Lt LtE Gt GtE Is IsNot In NotIn JoinedStr FormattedValue Load Store Yield".split()
)


def all_files():
    return sorted(FOLDER.rglob("*.py"))


def parent_map(tree):
    return {below: node for node in ast.walk(tree) for below in ast.iter_child_nodes(node)}


def called(node):
    """The name that a call calls, None of any other node."""
    return node.func.id if isinstance(node, ast.Call) and isinstance(node.func, ast.Name) else None


def bound_names(tree):
    """All names that something in the tree binds, with their nodes."""
    for node in ast.walk(tree):
        if isinstance(node, ast.Name) and isinstance(node.ctx, ast.Store):
            yield node.id, node
        elif isinstance(node, ast.arg):
            yield node.arg, node
        elif isinstance(node, (ast.FunctionDef, ast.ClassDef)):
            yield node.name, node
        elif isinstance(node, ast.alias):
            yield node.name, node


class Language(unittest.TestCase):
    def setUp(self):
        self.files = {path: path.read_text(encoding="utf-8") for path in all_files()}
        self.trees = {path: ast.parse(text) for path, text in self.files.items()}

    def each_node(self, *kinds):
        for path, tree in self.trees.items():
            for node in ast.walk(tree):
                if isinstance(node, kinds):
                    yield f"{path.name}:{getattr(node, 'lineno', 0)}", node

    def test_folder_has_only_such_files(self):
        for path in FOLDER.rglob("*"):
            if "__pycache__" not in path.parts:
                self.assertEqual(path.suffix, ".py", path)
                self.assertRegex(path.name, "^([a-z][a-z0-9]*|__init__).py$")
                self.assertNotIn(path.stem, FILE_NAMES_BARRED)
        self.assertLessEqual(len(self.files), 100)

    def test_characters_and_sizes(self):
        for path, text in self.files.items():
            self.assertTrue(all(sign == "\n" or " " <= sign <= "~" for sign in text), path)
            lines = text.split("\n")
            self.assertLessEqual(len(lines), 400, path)
            self.assertLessEqual(max(map(len, lines)), 120, path)
        for place, node in self.each_node(ast.FunctionDef):
            self.assertLessEqual(node.end_lineno - node.lineno + 1, 40, place)

    def test_only_these_kinds_of_nodes(self):
        for place, node in self.each_node(ast.AST):
            self.assertIn(type(node).__name__, NODES, place)
        for place, node in self.each_node(ast.Constant):
            self.assertIn(type(node.value), (int, str, bool, type(None)), place)

    def test_imports(self):
        homes = {f"bodybars.{path.stem}": self.own_names(tree) for path, tree in self.trees.items()}
        for path, tree in self.trees.items():
            body = [node for node in tree.body if not is_docstring(node)]
            heads = [isinstance(node, ast.ImportFrom) for node in body]
            self.assertEqual(heads, sorted(heads, reverse=True), path)
            for node in (node for node in ast.walk(tree) if isinstance(node, ast.ImportFrom)):
                self.assertIn(node, tree.body)
                self.assertEqual(node.level, 0)
                for alias in node.names:
                    self.assertIsNone(alias.asname, path)
                    self.assertIn(alias.name, homes.get(node.module) or LIBRARY[node.module], path)

    def own_names(self, tree):
        told = set()
        for node in tree.body:
            if isinstance(node, (ast.FunctionDef, ast.ClassDef)):
                told.add(node.name)
            elif isinstance(node, ast.Assign):
                told.add(node.targets[0].id)
        return told

    def test_no_two_files_import_from_each_other(self):
        asked = {}
        for path, tree in self.trees.items():
            asked[f"bodybars.{path.stem}"] = {
                node.module for node in tree.body
                if isinstance(node, ast.ImportFrom) and node.module.startswith("bodybars.")
            }
        while asked:
            ready = [name for name, below in asked.items() if not below & set(asked)]
            self.assertTrue(ready, asked)
            for name in ready:
                del asked[name]

    def test_every_import_is_used(self):
        for path, tree in self.trees.items():
            used = {node.id for node in ast.walk(tree) if isinstance(node, ast.Name)}
            for node in ast.walk(tree):
                if isinstance(node, ast.alias):
                    self.assertIn(node.name, used, path)

    def test_module_level(self):
        for path, tree in self.trees.items():
            names = []
            for node in tree.body:
                self.assertTrue(
                    isinstance(node, (ast.ImportFrom, ast.FunctionDef, ast.ClassDef, ast.Assign)) or is_docstring(node)
                )
                if isinstance(node, ast.Assign):
                    self.assertEqual(len(node.targets), 1, path)
                    self.assertIsInstance(node.targets[0], ast.Name, path)
                    for below in ast.walk(node.value):
                        self.assertNotIsInstance(below, (ast.Call, ast.Lambda, ast.ListComp, ast.Attribute), path)
                        if below is not node.value:
                            self.assertNotIsInstance(below, (ast.List, ast.Dict), path)
                    names.append(node.targets[0].id)
                elif isinstance(node, ast.ImportFrom):
                    names.extend(alias.name for alias in node.names)
                elif isinstance(node, (ast.FunctionDef, ast.ClassDef)):
                    names.append(node.name)
            self.assertEqual(len(names), len(set(names)), path)

    def test_lists_and_dicts_of_modules_are_only_read(self):
        kept = set()
        for tree in self.trees.values():
            for node in tree.body:
                if isinstance(node, ast.Assign) and isinstance(node.value, (ast.List, ast.Dict)):
                    kept.add(node.targets[0].id)
        self.assertLessEqual({"SIZES", "LENGTHS", "MOST_BODIES"}, kept)
        for path, tree in self.trees.items():
            own = {name for name, node in bound_names(tree) if name in kept and not isinstance(node, ast.Constant)}
            plain = {
                node.targets[0].id for node in tree.body
                if isinstance(node, ast.Assign) and not isinstance(node.value, (ast.List, ast.Dict))
            }
            parents = parent_map(tree)
            for node in ast.walk(tree):
                if isinstance(node, ast.Name) and node.id in own - plain and isinstance(node.ctx, ast.Load):
                    above = parents[node]
                    fits = isinstance(above, ast.Subscript) and above.value is node and isinstance(above.ctx, ast.Load)
                    fits = fits or isinstance(above, ast.Compare) and isinstance(above.ops[0], (ast.In, ast.NotIn))
                    fits = fits or isinstance(above, (ast.For, ast.comprehension)) and above.iter is node
                    self.assertTrue(fits, f"{path.name}:{node.lineno}")

    def test_names(self):
        for path, tree in self.trees.items():
            for name, node in bound_names(tree):
                if name == "__init__":
                    continue
                self.assertRegex(name, "^(_|_?[A-Za-z][A-Za-z0-9_]*)$", path)
                self.assertFalse(hasattr(builtins, name), (path, name))
                self.assertNotIn(name, BARRED, path)
                self.assertFalse(name.startswith(("_wall", "_pe_", "_dcw_", "_lay_", "_law_")), (path, name))
            taken = {node.name for node in ast.walk(tree) if isinstance(node, (ast.alias, ast.ClassDef))}
            for name, node in bound_names(tree):
                if isinstance(node, (ast.Name, ast.arg)):
                    self.assertNotIn(name, taken, path)
        for place, node in self.each_node(ast.Attribute, ast.Name, ast.keyword):
            for name in (getattr(node, "attr", None), getattr(node, "id", None), getattr(node, "arg", None)):
                self.assertNotIn(name, BARRED, place)
        for place, node in self.each_node(ast.Name):
            if node.id == "_":
                self.assertIsInstance(node.ctx, ast.Store, place)

    def test_names_that_are_read_are_known(self):
        for path, tree in self.trees.items():
            known = {name for name, _ in bound_names(tree)} | BUILTINS
            for node in ast.walk(tree):
                if isinstance(node, ast.Name):
                    self.assertIn(node.id, known, f"{path.name}:{node.lineno}")

    def test_functions_have_no_decorators_annotations_or_free_defaults(self):
        for place, node in self.each_node(ast.FunctionDef):
            self.assertEqual(node.decorator_list, [], place)
            self.assertIsNone(node.returns, place)
            for default in [*node.args.defaults, *[thing for thing in node.args.kw_defaults if thing is not None]]:
                self.assertIsInstance(default, ast.Constant, place)
        for place, node in self.each_node(ast.arg):
            self.assertIsNone(node.annotation, place)

    def test_classes_are_errors_and_one_more(self):
        own = []
        for place, node in self.each_node(ast.ClassDef):
            methods = [below.name for below in node.body if isinstance(below, ast.FunctionDef)]
            if node.name == "LiveFrame":
                self.assertTrue(place.startswith("liveframes.py"), place)
                self.assertEqual(node.bases, [])
                self.assertEqual(len(methods), len(set(methods)))
                self.assertFalse({name for name in methods if name.startswith("_")} - {"__init__"})
                self.assertFalse(set(methods) & (METHODS | {"items", "sort"}))
                own = methods
                continue
            self.assertTrue(place.startswith("errors.py"), place)
            self.assertEqual(len(node.bases), 1, place)
            self.assertIn(methods, ([], ["__init__"]), place)
        self.assertTrue(own)

    def own_methods(self):
        for _, node in self.each_node(ast.ClassDef):
            if node.name == "LiveFrame":
                return {below.name for below in node.body if isinstance(below, ast.FunctionDef)}

    def test_methods_are_those_of_builtin_values_or_of_the_class(self):
        own = self.own_methods()
        for path, tree in self.trees.items():
            parents = parent_map(tree)
            for node in ast.walk(tree):
                if not isinstance(node, ast.Attribute):
                    continue
                place = f"{path.name}:{node.lineno}"
                if path.name == "liveframes.py" and ast.unparse(node) in ("self._steps", "self._ahead"):
                    continue
                if isinstance(node.ctx, ast.Store):
                    self.assertEqual((path.name, ast.unparse(node.value)), ("errors.py", "self"), place)
                    continue
                call = parents[node]
                self.assertTrue(isinstance(call, ast.Call) and call.func is node, place)
                self.assertEqual(call.keywords, [], place)
                owner = ast.unparse(node.value)
                if owner == "live" or path.name == "liveframes.py" and owner in ("self", "other"):
                    self.assertIn(node.attr, own, place)
                else:
                    self.assertIn(node.attr, METHODS, place)

    def test_is_stands_beside_none_or_a_class(self):
        for place, node in self.each_node(ast.Compare):
            if any(isinstance(sign, (ast.Is, ast.IsNot)) for sign in node.ops):
                right = node.comparators[0]
                plain = isinstance(right, ast.Constant) and right.value in (None, True, False)
                self.assertTrue(plain or (called(node.left) == "type" and isinstance(right, ast.Name)), place)

    def test_type_stands_in_a_comparison_alone(self):
        for path, tree in self.trees.items():
            parents = parent_map(tree)
            for node in ast.walk(tree):
                if isinstance(node, ast.Name) and node.id == "type":
                    call = parents[node]
                    self.assertEqual(called(call), "type", path)
                    self.assertIsInstance(parents[call], ast.Compare, path)

    def test_what_is_iterated_at_once(self):
        for path, tree in self.trees.items():
            parents = parent_map(tree)
            for node in ast.walk(tree):
                view = isinstance(node, ast.Call) and isinstance(node.func, ast.Attribute) and node.func.attr in VIEWS
                if called(node) in ONCE or view:
                    above = parents[node]
                    fits = isinstance(above, (ast.For, ast.comprehension)) and above.iter is node
                    fits = fits or called(above) in ITERATING and above.args[0] is node
                    fits = fits or called(above) == "reversed" and called(node) == "range"
                    fits = fits or called(above) == "zip"
                    fits = fits or called(above) in LIBRARY["itertools"] and called(node) == "range"
                    self.assertTrue(fits, f"{path.name}:{node.lineno}")

    def test_generator_expressions_and_sets(self):
        for path, tree in self.trees.items():
            parents = parent_map(tree)
            for node in ast.walk(tree):
                if isinstance(node, ast.GeneratorExp):
                    self.assertIn(called(parents[node]), ITERATING - {"enumerate", "zip"}, path)
                if called(node) == "set":
                    self.assertIn(called(parents[node]), ("sorted", "len"), path)

    def test_comprehensions_in_comprehensions_have_names_of_their_own(self):
        kinds = (ast.ListComp, ast.DictComp, ast.GeneratorExp)
        for place, node in self.each_node(*kinds):
            outer = {name for part in node.generators for name, _ in bound_names(part.target)}
            for below in ast.walk(node):
                if below is not node and isinstance(below, kinds):
                    inner = {name for part in below.generators for name, _ in bound_names(part.target)}
                    self.assertFalse(outer & inner, place)

    def test_generators(self):
        for path, tree in self.trees.items():
            for node in ast.walk(tree):
                if isinstance(node, ast.Yield):
                    self.assertEqual(path.name, "exchanges.py")
        names = [name for tree in self.trees.values() for name, _ in bound_names(tree)]
        self.assertEqual(names.count("growing"), 1)

    def test_powers_and_strings(self):
        for place, node in self.each_node(ast.BinOp, ast.AugAssign):
            if isinstance(node.op, (ast.Mod, ast.Pow)):
                right = node.right if isinstance(node, ast.BinOp) else node.value
                self.assertIsInstance(right, ast.Constant, place)
                self.assertIs(type(right.value), int, place)
        for place, node in self.each_node(ast.Constant):
            if type(node.value) is str:
                self.assertNotIn("%", node.value, place)
                self.assertFalse(node.value.startswith("__"), place)

    def test_lambdas(self):
        seen = set()
        for path, tree in self.trees.items():
            for node in ast.walk(tree):
                if isinstance(node, ast.Lambda):
                    key = (path, node.lineno, tuple(arg.arg for arg in node.args.args))
                    self.assertNotIn(key, seen)
                    seen.add(key)

    def test_words_in_strings(self):
        for path, text in self.files.items():
            self.assertNotIn("_wall", text)
            self.assertNotIn("_WallAttr", text)
            for token in tokenize.generate_tokens(io.StringIO(text).readline):
                if token.type == tokenize.NAME:
                    self.assertNotIn(token.string, BARRED, path)

    def test_loops_do_not_change_what_they_go_over(self):
        for path, tree in self.trees.items():
            for line, name in loops_that_change(tree):
                self.fail(f"{path.name}:{line}: the loop changes {name}")

    def test_such_loops_are_found(self):
        for head in ("xs", "enumerate(xs)", "zip(ys, xs)", "reversed(xs)", "enumerate(zip(xs, ys), start=1)", "xs.items()"):
            for row in (
                "xs[0] = 1", "xs[0] += 1", "xs[0], y = 1, 2", "del xs[0]", "xs[1:2] = []", "xs.append(1)", "xs.pop()",
                "xs.insert(0, 1)", "xs.remove(1)", "xs.extend(ys)", "xs.clear()", "xs.sort()", "xs.reverse()",
                "if y:\n        xs.setdefault(1, 2)", "return xs.pop()", "xs.update(ys)", "xs = xs.pop()",
            ):
                loop = f"for x in {head}:\n    {row}\n"
                self.assertEqual([name for _, name in loops_that_change(ast.parse(loop))], ["xs"], loop)
                item = loop.replace("xs", "self.rows[k]")
                self.assertEqual([name for _, name in loops_that_change(ast.parse(item))], ["self.rows[k]"], item)
        for head, row in (
            ("list(xs)", "xs[0] = 1"), ("enumerate(list(xs))", "xs[0] = 1"), ("ys", "xs.append(1)"),
            ("range(len(xs))", "xs[0] = 1"), ("xs", "ys[0] = xs[0]"), ("xs", "xs[0].append(1)"), ("xs[0]", "xs[1] = 2"),
            ("sorted(xs)", "xs.clear()"), ("zip(list(xs), ys)", "xs.pop()"), ("xs", "y = xs.index(1)"),
        ):
            loop = f"for x in {head}:\n    {row}\n"
            self.assertEqual(list(loops_that_change(ast.parse(loop))), [], loop)


def gone_over(node):
    """The texts of what an iteration over this goes over as it stands, without a copy."""
    if isinstance(node, (ast.Name, ast.Attribute, ast.Subscript)):
        yield ast.unparse(node)
    elif isinstance(node, ast.Call):
        if called(node) in ("enumerate", "zip", "reversed"):
            for arg in node.args:
                yield from gone_over(arg)
        elif isinstance(node.func, ast.Attribute) and node.func.attr in VIEWS:
            yield from gone_over(node.func.value)
    elif isinstance(node, ast.IfExp):
        yield from gone_over(node.body)
        yield from gone_over(node.orelse)
    elif isinstance(node, ast.BoolOp):
        for value in node.values:
            yield from gone_over(value)


def changed_things(row):
    """The texts of what the rows store items of, or call a method on that changes it."""
    for node in ast.walk(row):
        if isinstance(node, ast.Subscript) and isinstance(node.ctx, (ast.Store, ast.Del)):
            yield ast.unparse(node.value)
        elif isinstance(node, ast.Call) and isinstance(node.func, ast.Attribute) and node.func.attr in CHANGING:
            yield ast.unparse(node.func.value)
        elif isinstance(node, ast.AugAssign) and not isinstance(node.target, ast.Subscript):
            yield ast.unparse(node.target)


def loops_that_change(tree):
    """The line of each loop or comprehension that changes what it goes over, and what that is."""
    for node in ast.walk(tree):
        if isinstance(node, ast.For):
            over, rows = set(gone_over(node.iter)), node.body
        elif isinstance(node, (ast.ListComp, ast.DictComp, ast.SetComp, ast.GeneratorExp)):
            over, rows = {name for part in node.generators for name in gone_over(part.iter)}, [node]
        else:
            continue
        for name in sorted(over & {name for row in rows for name in changed_things(row)}):
            yield node.lineno, name


def is_docstring(node):
    return isinstance(node, ast.Expr) and isinstance(node.value, ast.Constant) and type(node.value.value) is str
