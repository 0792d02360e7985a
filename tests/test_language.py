"""Holds the package against the rules of the language subset that a program can see.

The rules are those of ../shared/LANGUAGE.md; where a rule has many cases, the test asks for the plain one.
"""

import ast
import builtins
import os
import re
import unittest

ROOT = os.path.dirname(os.path.dirname(os.path.abspath(__file__)))
PACKAGE = "unbrokenrows"
FOLDER = os.path.join(ROOT, PACKAGE)
BUILTINS = set("""len range enumerate zip min max sum abs sorted reversed int str bool list tuple dict set isinstance
    ord repr any all divmod ValueError TypeError KeyError NotImplementedError super staticmethod classmethod property
    NotImplemented iter map""".split())
CALLABLE_ATTRIBUTES = {"question"}
METHODS = set("""append clear copy count endswith extend find get index insert isalnum isalpha isdigit islower isspace
    isupper items join keys ljust lower lstrip partition pop remove replace reverse rfind rjust rpartition rsplit
    rstrip setdefault split splitlines startswith strip update upper values zfill bit_length __init__""".split())
CHANGING = set("append clear extend insert pop remove reverse setdefault update add discard".split())
LIBRARY = {"math": ["gcd", "lcm", "isqrt", "comb", "perm", "factorial"],
           "heapq": ["heappush", "heappop", "heapify", "heapreplace", "heappushpop"]}
PLAIN_SPECIAL = set("__init__ __eq__ __repr__ __str__ __len__ __call__ __iter__".split())
OPERATORS = set("""__add__ __sub__ __mul__ __rmul__ __and__ __or__ __lshift__ __rshift__ __neg__ __invert__ __abs__
    __bool__ __contains__ __getitem__""".split())
PURE = OPERATORS | set("__eq__ __repr__ __str__ __len__".split())
BARRED_NAMES = set("""register mro elements open input law version_info with_traceback add_note attrgetter breakpoint
    builtins compile copyright credits delattr dir eval exec exit gc getattr globals hasattr help id importlib license
    locals methodcaller os quit setattr type vars sys keys""".split())
BARRED_WORDS = """type typing typing_extensions enum Enum IntEnum StrEnum Flag IntFlag Generic Protocol ABC ABCMeta
    namedtuple NamedTuple TypedDict TYPE_CHECKING abstractmethod""".split()
BARRED_NODES = (ast.AsyncFunctionDef, ast.Await, ast.Global, ast.GeneratorExp, ast.Set, ast.SetComp, ast.Div,
                ast.MatMult, ast.With, ast.Match, ast.AnnAssign, ast.Delete, ast.Import)
FRESH = (ast.List, ast.Dict, ast.ListComp, ast.DictComp)


def files():
    return sorted(name for name in os.listdir(FOLDER) if name != "__pycache__")


def read(name):
    with open(os.path.join(FOLDER, name), encoding="utf-8", newline="") as file:
        return file.read()


TREES = {name: ast.parse(read(name)) for name in files()}


def nodes(kind):
    return [(name, node) for name, tree in TREES.items() for node in ast.walk(tree) if isinstance(node, kind)]


def functions():
    return nodes(ast.FunctionDef)


def parameters(function):
    told = function.args
    extra = [one for one in (told.vararg, told.kwarg) if one]
    return [one.arg for one in told.posonlyargs + told.args + told.kwonlyargs + extra]


def bound_names(tree):
    """All names that a file binds anywhere."""
    found = []
    for node in ast.walk(tree):
        if isinstance(node, ast.Name) and not isinstance(node.ctx, ast.Load):
            found.append(node.id)
        elif isinstance(node, ast.FunctionDef):
            found.extend([node.name] + parameters(node))
        elif isinstance(node, ast.ClassDef):
            found.append(node.name)
        elif isinstance(node, ast.ImportFrom):
            found.extend(alias.name for alias in node.names)
        elif isinstance(node, ast.ExceptHandler) and node.name:
            found.append(node.name)
        elif isinstance(node, ast.Lambda):
            found.extend(one.arg for one in node.args.args)
    return found


def methods_of_package():
    return {node.name for _, one in nodes(ast.ClassDef) for node in one.body if isinstance(node, ast.FunctionDef)}


class FileTest(unittest.TestCase):
    def test_files(self):
        self.assertIn("__init__.py", files())
        self.assertLessEqual(len(files()), 100)
        for name in files():
            self.assertTrue(re.fullmatch(r"(__init__|[a-z][a-z0-9_]*)\.py", name), name)
            self.assertNotIn(name[:-3], list(LIBRARY) + ["itertools", "collections"] + dir(builtins))

    def test_characters_and_sizes(self):
        for name in files():
            text = read(name)
            self.assertTrue(all(" " <= sign <= "~" or sign == "\n" for sign in text), name)
            self.assertLessEqual(len(text.split("\n")) - 1, 399, name)
            self.assertLessEqual(max(len(line) for line in text.split("\n")), 120, name)
        for name, node in functions():
            self.assertLessEqual(node.end_lineno - node.lineno + 1, 40, f"{name} {node.name}")

    def test_words(self):
        for name in files():
            code = ast.unparse(ast.parse(read(name)))
            for word in BARRED_WORDS:
                self.assertIsNone(re.search(rf"\b{word}\b", code), f"{name} {word}")
            self.assertNotIn("(type)", read(name))
            self.assertNotIn("Meta", read(name))

    def test_imports(self):
        defined = {name[:-3]: [node.name for node in tree.body if isinstance(node, (ast.FunctionDef, ast.ClassDef))]
                   + [one.id for node in tree.body if isinstance(node, ast.Assign) for one in node.targets]
                   for name, tree in TREES.items()}
        for name, node in nodes(ast.ImportFrom):
            self.assertIn(node, TREES[name].body)
            self.assertTrue(all(alias.asname is None for alias in node.names), name)
            if node.module in LIBRARY:
                known = LIBRARY[node.module]
            else:
                self.assertTrue(node.module.startswith(PACKAGE + "."), f"{name} {node.module}")
                known = defined[node.module[len(PACKAGE) + 1:]]
            for alias in node.names:
                self.assertIn(alias.name, known, name)

    def test_no_files_import_from_each_other(self):
        waiting = {name[:-3]: {node.module[len(PACKAGE) + 1:] for other, node in nodes(ast.ImportFrom)
                               if other == name and node.module not in LIBRARY} for name in files()}
        while waiting:
            free = [name for name in waiting if not waiting[name] & set(waiting)]
            self.assertTrue(free, f"a ring of imports in {sorted(waiting)}")
            waiting = {name: waiting[name] for name in waiting if name not in free}

    def test_module_level(self):
        for name, tree in TREES.items():
            bound = []
            for at, node in enumerate(tree.body):
                if isinstance(node, ast.Expr):
                    self.assertTrue(at == 0 and isinstance(node.value.value, str), name)
                elif isinstance(node, ast.Assign):
                    self.assertIsInstance(node.targets[0], ast.Name)
                    self.assertEqual(len(node.targets), 1, name)
                    ast.literal_eval(node.value)
                    bound.append(node.targets[0].id)
                elif isinstance(node, ast.ImportFrom):
                    bound.extend(alias.name for alias in node.names)
                else:
                    self.assertIsInstance(node, (ast.FunctionDef, ast.ClassDef), name)
                    bound.append(node.name)
            self.assertEqual(len(bound), len(set(bound)), name)


class NameTest(unittest.TestCase):
    def test_names(self):
        for name, tree in TREES.items():
            for bound in bound_names(tree):
                self.assertTrue(bound in PURE | PLAIN_SPECIAL or re.fullmatch(r"_?[A-Za-z][A-Za-z0-9_]*|_", bound))
                self.assertNotIn(bound, BARRED_NAMES, name)
                self.assertIsNone(re.match(r"_(wall|pe_|dcw_|enum_|cm_|lay_|law_|stub_|sre|record)", bound), name)
        for _, node in nodes(ast.ClassDef):
            self.assertFalse(node.name.startswith("_"), node.name)

    def test_nothing_has_the_name_of_a_builtin(self):
        for name, tree in TREES.items():
            for bound in bound_names(tree):
                self.assertNotIn(bound, dir(builtins), name)

    def test_locals_have_no_name_of_an_import_or_a_class(self):
        for name, tree in TREES.items():
            taken = [alias.name for other, node in nodes(ast.ImportFrom) if other == name for alias in node.names]
            taken += [node.name for node in tree.body if isinstance(node, ast.ClassDef)]
            for other, node in functions():
                if other == name:
                    local = parameters(node) + [one.id for one in ast.walk(node) if isinstance(one, ast.Name)
                                                and not isinstance(one.ctx, ast.Load)]
                    self.assertFalse(set(local) & set(taken), f"{name} {node.name}")

    def test_builtins(self):
        for name, tree in TREES.items():
            known = set(bound_names(tree)) | BUILTINS
            for node in ast.walk(tree):
                if isinstance(node, ast.Name) and isinstance(node.ctx, ast.Load):
                    self.assertIn(node.id, known, f"{name} {node.lineno}")

    def test_methods_that_are_called(self):
        known = METHODS | methods_of_package() | CALLABLE_ATTRIBUTES
        for name, node in nodes(ast.Call):
            if isinstance(node.func, ast.Attribute):
                self.assertIn(node.func.attr, known, f"{name} {node.lineno}")

    def test_attributes_and_methods(self):
        methods = methods_of_package()
        static = {node.name for _, node in functions()
                  if any(getattr(one, "id", "") == "staticmethod" for one in node.decorator_list)}
        stored = {node.attr for _, node in nodes(ast.Attribute) if isinstance(node.ctx, ast.Store)}
        self.assertFalse(stored & static)
        self.assertFalse(stored & METHODS - {"count", "index"})
        for _, one in nodes(ast.ClassDef):
            own = {node.name for node in one.body if isinstance(node, ast.FunctionDef)}
            mine = {node.attr for node in ast.walk(one) if isinstance(node, ast.Attribute)
                    and isinstance(node.ctx, ast.Store)}
            self.assertFalse(own & mine, one.name)
        plain = [node.name for _, one in nodes(ast.ClassDef) for node in one.body
                 if isinstance(node, ast.FunctionDef) and node.name not in static]
        self.assertFalse(static & set(plain))
        self.assertIn("is_sure", methods)


class CodeTest(unittest.TestCase):
    def test_nodes(self):
        for kind in BARRED_NODES:
            self.assertEqual([(name, node.lineno) for name, node in nodes(kind)], [])

    def test_values(self):
        for name, node in nodes(ast.Constant):
            self.assertNotIsInstance(node.value, (float, complex, bytes), name)
            if isinstance(node.value, str):
                self.assertNotIn("%", node.value, name)

    def test_is(self):
        for name, node in nodes(ast.Compare):
            for sign, side in zip(node.ops, node.comparators):
                if isinstance(sign, (ast.Is, ast.IsNot)):
                    self.assertTrue(isinstance(side, ast.Constant) and side.value in (None, True, False), name)

    def test_handlers_name_own_errors(self):
        own = {node.name for name, node in nodes(ast.ClassDef) if name == "errors.py"} | {"KeyError"}
        for name, node in nodes(ast.ExceptHandler):
            caught = node.type.elts if isinstance(node.type, ast.Tuple) else [node.type]
            self.assertTrue(all(one.id in own for one in caught), name)

    def test_raises_make_their_error(self):
        for name, node in nodes(ast.Raise):
            self.assertTrue(node.exc is None or isinstance(node.exc, ast.Call), f"{name} {node.lineno}")

    def test_decorators_and_double_underscores(self):
        for name, node in functions():
            for one in node.decorator_list:
                told = one.id if isinstance(one, ast.Name) else one.attr
                self.assertIn(told, ["staticmethod", "classmethod", "property", "setter"], name)
            if node.name.startswith("__"):
                self.assertIn(node.name, PURE | PLAIN_SPECIAL, name)
        for _, one in nodes(ast.ClassDef):
            self.assertEqual(one.decorator_list, [])

    def test_methods_with_a_star_have_a_plain_first_parameter(self):
        for _, one in nodes(ast.ClassDef):
            for node in one.body:
                if isinstance(node, ast.FunctionDef) and (node.args.vararg or node.args.kwarg):
                    self.assertTrue(node.args.args, node.name)

    def test_default_values(self):
        for name, node in functions():
            for value in node.args.defaults + [one for one in node.args.kw_defaults if one]:
                self.assertNotIsInstance(ast.literal_eval(value), (list, dict), f"{name} {node.name}")

    def test_sorting(self):
        for name, node in nodes(ast.Call):
            if isinstance(node.func, ast.Attribute):
                self.assertNotEqual(node.func.attr, "sort", name)
            told = [one.arg for one in node.keywords] if isinstance(node.func, ast.Name) else []
            if isinstance(node.func, ast.Name) and node.func.id in BUILTINS:
                self.assertTrue(set(told) <= {"default", "start", "strict", "reverse", "key"}, name)

    def test_returns_of_double_underscores(self):
        for name, node in functions():
            if node.name in ("__len__", "__str__", "__repr__"):
                self.assertIsInstance(node.body[-1], ast.Return)
                for one in ast.walk(node):
                    if isinstance(one, ast.Return):
                        told = getattr(getattr(one.value, "func", None), "id", "")
                        self.assertTrue(isinstance(one.value, ast.JoinedStr) or told in ("len", "str", "repr"), name)

    def test_generators_are_iterated_at_once(self):
        made = {node.name for _, node in functions() if any(isinstance(one, ast.Yield) for one in ast.walk(node))}
        for name, node in nodes(ast.Call):
            told = getattr(node.func, "attr", getattr(node.func, "id", ""))
            self.assertFalse(told in made and not self.is_iterated(name, node), f"{name} {node.lineno}")
        self.assertFalse(made & METHODS)
        every = [node.name for _, node in functions()]
        self.assertTrue(all(every.count(one) == 1 for one in made))

    def is_iterated(self, name, call):
        for node in ast.walk(TREES[name]):
            if isinstance(node, (ast.For, ast.comprehension)) and node.iter is call:
                return True
            if isinstance(node, ast.Call) and call in node.args and getattr(node.func, "id", "") in BUILTINS:
                return True
            if isinstance(node, ast.YieldFrom) and node.value is call:
                return True
        return False


class OperatorTest(unittest.TestCase):
    """What an operator runs changes only what it created."""

    def reached(self):
        """All functions that operators may run, by the names that they call."""
        by_name = {}
        for name, node in functions():
            by_name.setdefault(node.name, []).append((name, node))
        makers = {one.name: (name, node) for name, one in nodes(ast.ClassDef) for node in one.body
                  if isinstance(node, ast.FunctionDef) and node.name == "__init__"}
        waiting = [pair for word in PURE for pair in by_name.get(word, [])]
        waiting += [pair for pair in functions() if self.is_property(pair[1])]
        found = []
        while waiting:
            pair = waiting.pop()
            if pair in found:
                continue
            found.append(pair)
            for call in [one for one in ast.walk(pair[1]) if isinstance(one, ast.Call)]:
                told = getattr(call.func, "attr", getattr(call.func, "id", ""))
                waiting.extend(by_name.get(told, []) if told != "__init__" else [])
                waiting.extend([makers[told]] if told in makers else [])
        return found

    def is_property(self, function):
        return [getattr(one, "id", "") for one in function.decorator_list] == ["property"]

    def test_something_is_reached(self):
        names = {node.name for _, node in self.reached()}
        self.assertTrue({"narrowed", "first_stray", "form_text", "order_fault", "_lined_firm", "is_ring_layout",
                         "strict"} <= names)

    def test_changes(self):
        for name, node in self.reached():
            where = f"{name} {node.name}"
            for one in ast.walk(node):
                if isinstance(one, ast.AugAssign):
                    self.assertTrue(isinstance(one.target, ast.Name) and isinstance(one.value, ast.Constant), where)
                elif isinstance(one, ast.Attribute) and not isinstance(one.ctx, ast.Load):
                    self.assertTrue(node.name == "__init__" and one.value.id == "self", where)
                elif isinstance(one, ast.Subscript) and not isinstance(one.ctx, ast.Load):
                    self.assert_fresh(node, one.value, where)
                elif isinstance(one, ast.Call) and getattr(one.func, "attr", "") in CHANGING:
                    self.assert_fresh(node, one.func.value, where)
                self.assertNotIsInstance(one, (ast.Yield, ast.YieldFrom, ast.Lambda), where)

    def assert_fresh(self, function, target, where):
        self.assertIsInstance(target, ast.Name, where)
        self.assertNotIn(target.id, parameters(function), where)
        values = [one.value for one in ast.walk(function) if isinstance(one, ast.Assign)
                  and any(isinstance(other, ast.Name) and other.id == target.id for other in one.targets)]
        self.assertTrue(values, where)
        for value in values:
            made = isinstance(value, ast.Call) and getattr(value.func, "id", "") in ("list", "dict", "sorted")
            self.assertTrue(made or isinstance(value, FRESH), where)

    def test_nothing_passed_is_called(self):
        for name, node in self.reached():
            for call in [one for one in ast.walk(node) if isinstance(one, ast.Call)]:
                self.assertNotIn(getattr(call.func, "id", ""), parameters(node), f"{name} {node.name}")

    def test_no_call_has_the_name_of_an_attribute(self):
        """A method that is called counts as what an attribute holds if some class has an attribute of its name."""
        stored = {node.attr for _, node in nodes(ast.Attribute) if isinstance(node.ctx, ast.Store)}
        self.assertTrue({"index", "name", "rows"} <= stored)
        for name, node in self.reached():
            for call in [one for one in ast.walk(node) if isinstance(one, ast.Call)]:
                if isinstance(call.func, ast.Attribute):
                    self.assertNotIn(call.func.attr, stored, f"{name} {call.lineno}")
                self.assertIsInstance(call.func, (ast.Attribute, ast.Name), f"{name} {call.lineno}")


if __name__ == "__main__":
    unittest.main()
