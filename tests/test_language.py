"""The package keeps to its small part of the language, as far as a reader of its trees can see."""

import ast
import builtins
import pathlib
import re
import unittest

ROOT = pathlib.Path(__file__).resolve().parent.parent
PACKAGE = ROOT / "gentlebends"
FILES = sorted(PACKAGE.glob("*.py"))
ALLOWED_BUILTINS = set(
    "len range enumerate zip min max sum abs sorted reversed int str bool bytes list tuple dict set frozenset isinstance"
    " ord repr any all divmod super Exception ValueError TypeError KeyError IndexError LookupError ZeroDivisionError"
    " ArithmeticError OverflowError RuntimeError NotImplementedError AttributeError StopIteration NotImplemented".split())
ALLOWED_METHODS = set(
    "append clear copy count endswith extend find get index insert isalnum isalpha isdigit islower isspace isupper items"
    " join keys ljust lower lstrip partition pop remove replace reverse rfind rjust rpartition rsplit rstrip setdefault"
    " split splitlines startswith strip update upper values zfill bit_length __init__".split())
NEVER_NAMES = set(
    "register mro elements open input version_info with_traceback add_note attrgetter breakpoint builtins compile"
    " copyright credits delattr dir eval exec exit gc getattr globals hasattr help id importlib license locals"
    " methodcaller os quit setattr type vars sys chr print".split())
NEVER_WORDS = (
    "type typing typing_extensions enum Enum IntEnum StrEnum Flag IntFlag Generic Protocol ABC ABCMeta namedtuple"
    " NamedTuple TypedDict TYPE_CHECKING abstractmethod").split()
STATEMENTS = (
    ast.FunctionDef, ast.ClassDef, ast.Assign, ast.AugAssign, ast.If, ast.While, ast.For, ast.Return, ast.Break,
    ast.Continue, ast.Pass, ast.Raise, ast.Assert, ast.Expr, ast.ImportFrom,
)
CONSTANT_PARTS = (ast.Constant, ast.Tuple, ast.List, ast.Dict, ast.UnaryOp, ast.BinOp, ast.Load, ast.operator, ast.unaryop)


def trees():
    for path in FILES:
        yield path, ast.parse(path.read_text(encoding="utf-8"))


def own_methods():
    """The names of all methods that the package defines."""
    classes = [node for path, tree in trees() for node in tree.body if isinstance(node, ast.ClassDef)]
    return {node.name for some in classes for node in some.body if isinstance(node, ast.FunctionDef)} - {"__init__"}


def bound_names(tree):
    """All names that a function binds: parameters, targets, loops."""
    for node in ast.walk(tree):
        if isinstance(node, ast.arg):
            yield node.arg
        elif isinstance(node, ast.Name) and isinstance(node.ctx, ast.Store):
            yield node.id


class Language(unittest.TestCase):

    def test_files(self):
        names = [path.name for path in PACKAGE.iterdir() if path.name != "__pycache__"]
        self.assertTrue(all(re.fullmatch(r"[a-z0-9_]+\.py", name) for name in names))
        self.assertIn("__init__.py", names)
        self.assertLessEqual(len(names), 100)

    def test_signs_and_sizes(self):
        for path in FILES:
            text = path.read_text(encoding="utf-8")
            self.assertTrue(all(sign == "\n" or " " <= sign <= "~" for sign in text), path)
            lines = text.split("\n")
            self.assertLessEqual(len(lines), 400, path)
            self.assertLessEqual(max(len(line) for line in lines), 120, path)
            for word in NEVER_WORDS:
                self.assertIsNone(re.search(rf"\b{word}\b", text), (path, word))
            for word in ("dataclass", "overload", "contextmanager"):
                self.assertNotIn(word, text)

    def test_functions_are_small(self):
        for path, tree in trees():
            for node in ast.walk(tree):
                if isinstance(node, ast.FunctionDef):
                    self.assertLessEqual(node.end_lineno - node.lineno + 1, 40, (path, node.name))
                    self.assertEqual(node.decorator_list, [])
                    self.assertEqual(node.args.posonlyargs, [])

    def test_module_level(self):
        for path, tree in trees():
            bound = []
            for at, node in enumerate(tree.body):
                if isinstance(node, ast.Expr):
                    self.assertTrue(at == 0 and isinstance(node.value, ast.Constant), path)
                elif isinstance(node, ast.ImportFrom):
                    bound += [alias.name for alias in node.names]
                elif isinstance(node, ast.Assign):
                    self.assertEqual(len(node.targets), 1)
                    bound.append(node.targets[0].id)
                    self.assertTrue(all(isinstance(part, CONSTANT_PARTS) for part in ast.walk(node.value)), path)
                else:
                    self.assertIsInstance(node, (ast.FunctionDef, ast.ClassDef), path)
                    bound.append(node.name)
            self.assertEqual(len(bound), len(set(bound)), path)

    def test_imports(self):
        defined = {}
        needs = {}
        for path, tree in trees():
            defined[path.stem] = {node.name for node in tree.body if hasattr(node, "name")}
            defined[path.stem] |= {node.targets[0].id for node in tree.body if isinstance(node, ast.Assign)}
        for path, tree in trees():
            needs[path.stem] = set()
            for node in ast.walk(tree):
                self.assertNotIsInstance(node, ast.Import)
                if isinstance(node, ast.ImportFrom):
                    package, name = node.module.split(".")
                    self.assertEqual((package, node.level), ("gentlebends", 0))
                    needs[path.stem].add(name)
                    for alias in node.names:
                        self.assertIn(alias.name, defined[name], (path, alias.name))
                        self.assertIsNone(alias.asname)
        while needs:
            ready = [name for name in needs if not needs[name] & set(needs)]
            self.assertTrue(ready, "files import from each other")
            for name in ready:
                del needs[name]

    def test_imports_are_used(self):
        for path, tree in trees():
            used = {node.id for node in ast.walk(tree) if isinstance(node, ast.Name)}
            for node in tree.body:
                if isinstance(node, ast.ImportFrom):
                    for alias in node.names:
                        self.assertIn(alias.name, used, path)

    def test_statements(self):
        for path, tree in trees():
            for node in ast.walk(tree):
                if isinstance(node, ast.stmt):
                    self.assertIsInstance(node, STATEMENTS, path)
                if isinstance(node, ast.Raise):
                    self.assertIsInstance(node.exc, ast.Call, path)
                    self.assertIsInstance(node.exc.func, ast.Name, path)
                self.assertNotIsInstance(node, (ast.Div, ast.Set, ast.SetComp, ast.Lambda, ast.Yield, ast.Global), path)
                if isinstance(node, ast.Compare):
                    for sign, right in zip(node.ops, node.comparators):
                        if isinstance(sign, (ast.Is, ast.IsNot)):
                            self.assertIsInstance(right, ast.Constant, path)
                            self.assertIn(right.value, (None, True, False))
                if isinstance(node, ast.BinOp) and isinstance(node.op, ast.Pow):
                    self.assertIsInstance(node.right, ast.Constant, path)
                    self.assertIn(node.right.value, range(65))
                if isinstance(node, ast.Constant):
                    self.assertNotIsInstance(node.value, (float, complex, bytes), path)
                    if isinstance(node.value, str):
                        self.assertNotIn(chr(37), node.value, path)

    def test_names(self):
        methods = ALLOWED_METHODS | own_methods()
        for path, tree in trees():
            taken = {alias.name for node in tree.body if isinstance(node, ast.ImportFrom) for alias in node.names}
            taken |= {node.name for node in tree.body if isinstance(node, ast.ClassDef)}
            for node in tree.body:
                if isinstance(node, (ast.FunctionDef, ast.ClassDef)):
                    for name in bound_names(node):
                        self.assertNotIn(name, taken, path)
                        self.assertFalse(hasattr(builtins, name), (path, name))
            for node in ast.walk(tree):
                name = getattr(node, "id", None) or getattr(node, "arg", None) or getattr(node, "attr", None)
                if isinstance(node, (ast.FunctionDef, ast.ClassDef)):
                    name = node.name
                if isinstance(name, str):
                    self.assertNotIn(name, NEVER_NAMES, path)
                    self.assertTrue(name == "__init__" or re.fullmatch(r"[A-Za-z][A-Za-z0-9_]*", name), (path, name))
                if isinstance(node, ast.Name) and hasattr(builtins, node.id):
                    self.assertIn(node.id, ALLOWED_BUILTINS, path)
                if isinstance(node, ast.Call) and isinstance(node.func, ast.Attribute):
                    self.assertIn(node.func.attr, methods, path)

    def test_own_methods_and_attributes(self):
        stored = {node.attr for path, tree in trees() for node in ast.walk(tree)
                  if isinstance(node, ast.Attribute) and isinstance(node.ctx, ast.Store)}
        read = {node.attr for path, tree in trees() for node in ast.walk(tree)
                if isinstance(node, ast.Attribute) and isinstance(node.ctx, ast.Load)}
        built_in = {name for kind in (int, str, bytes, list, tuple, dict, set) for name in dir(kind)} | {"args"}
        self.assertFalse(stored & own_methods())
        self.assertFalse((stored | own_methods()) & (built_in - {"__init__"}))
        self.assertFalse(read - stored - own_methods() - ALLOWED_METHODS)

    def test_generators_stand_where_they_may(self):
        for path, tree in trees():
            parents = {child: node for node in ast.walk(tree) for child in ast.iter_child_nodes(node)}
            for node in ast.walk(tree):
                if isinstance(node, ast.GeneratorExp):
                    around = parents[node]
                    self.assertIsInstance(around, ast.Call, path)
                    self.assertIn(around.func.id, ("list", "tuple", "dict", "sorted", "sum", "min", "max", "any", "all"))
                if isinstance(node, ast.Call) and getattr(node.func, "id", "") in ("zip", "enumerate", "reversed", "range"):
                    self.assertIsInstance(parents[node], (ast.For, ast.comprehension, ast.Call), path)


class Interface(unittest.TestCase):

    NAMES = {
        "fractions": "is_fraction:1 fraction_of:2 plus_by:2 minus_by:2 times_by:2 over_by:2 sign_of:1 is_below:2"
                     " least_of:1 greatest_of:1",
        "texts": "shown_fraction:1 read_fraction:1",
        "polys": "is_poly:1 poly_of:1 poly_sum:2 poly_scaled:2 poly_times:2 slope_of:1 moved_poly:2 mirrored_poly:1"
                 " value_of:2 under_poly:3 under_product:4",
        "rows": "is_row:1 row_of_poly:3 value_at:2 bends_at:2 smooth_at:2 smooth_of:1",
        "cutting": "with_cut:2 without_cut:2 bare_row:1 are_one:2 part_of:3",
        "rowsums": "row_sum:2 row_scaled:2 moved_row:2 mirrored_row:1",
        "bending": "under_row:3 pairing_of:3 bending_of:2",
        "asking": "ask_task:1 places_of:1 fault_of:2 misses_of:2 cost_of:2",
        "pulling": "pulls_of:2 prices_of:2",
        "leastchecker": "lets_least:2",
        "solving": "solved_by:2",
        "settling": "settled_by:2",
        "smoothing": "smoothest_through:3 near_paper:1",
        "boundlists": "bounds_of:1 how_many_bounds:1 binding_of:2 priced_of:2",
        "leastpapers": "least_paper_of:1",
        "wishes": "let_go:2 held_fast:2 wish_moved:4",
        "trading": "toll_of:2 traded_by:2",
        "shaping": "ask_shaped:1 has_shape:2 shaped_cost:2",
        "shapechecker": "lets_shaped:2",
        "shapepapers": "shaped_paper_of:1",
        "knots": "ask_knots:2",
        "hills": "hills_at:3 hill_row:3",
        "polar": "polar_at:3",
        "shares": "row_of_shares:3 shares_of_row:3",
        "putting": "put_in:4 put_all:4 taken_out:4",
        "slopes": "slope_shares:3",
        "sides": "turns_in:1 cage_at:4",
        "turnchecker": "lets_turns:4",
        "turnpapers": "turns_paper:4",
        "moving": "value_share:2 slope_share:2 turned_by:3 bends_dying:2",
        "heading": "heads_of:1 halved_row:2",
        "topping": "highest_of:2 below_paper:3",
        "topchecker": "lets_below:3",
        "meetchecker": "lets_meets:3",
        "meeting": "meets_paper:3",
        "leveling": "levels_of:1 slope_row:1",
        "sheeting": "is_sheet:1 height_at:3 row_at_x:2 row_at_y:2 sheet_turned:1 under_sheet:1",
        "crossing": "sheet_through:4 sheet_crossed:4 unit_sheet:5",
    }
    KEEPER = "__init__:1 put:2 move:2 out:1 back:0 points_now:0 row_now:0 share_now:1 turned_from:1"

    def test_names_and_arguments(self):
        found = {path.stem: tree for path, tree in trees()}
        for module, names in self.NAMES.items():
            functions = {node.name: node for node in found[module].body if isinstance(node, ast.FunctionDef)}
            self.look_at(functions, names, 0)

    def look_at(self, functions, names, more):
        """Look that functions have these names, and as many parameters as told and so many more."""
        for name in names.split():
            name, many = name.split(":")
            self.assertIn(name, functions)
            self.assertEqual(len(functions[name].args.args), int(many) + more, name)
            self.assertEqual(functions[name].args.defaults, [])

    def test_keeper(self):
        found = {path.stem: tree for path, tree in trees()}
        classes = {node.name: node for node in found["keeping"].body if isinstance(node, ast.ClassDef)}
        methods = {node.name: node for node in classes["Keeper"].body if isinstance(node, ast.FunctionDef)}
        self.look_at(methods, self.KEEPER, 1)

    def test_checkers_neither_solve_nor_seek(self):
        found = {path.stem: tree for path, tree in trees()}
        for checker in ("leastchecker", "shapechecker", "turnchecker", "topchecker", "meetchecker"):
            seen = set()
            left = [checker]
            while left:
                name = left.pop()
                if name not in seen:
                    seen.add(name)
                    left += [node.module.split(".")[1] for node in found[name].body if isinstance(node, ast.ImportFrom)]
            self.assertFalse(seen & {"solving", "settling", "seeking"})


if __name__ == "__main__":
    unittest.main()
