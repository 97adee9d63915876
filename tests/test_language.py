"""The rules of the language that can be seen in the files of the package."""

import ast
import builtins
import pathlib
import unittest
import warnings

PACKAGE = pathlib.Path(__file__).resolve().parent.parent / "livecopy"

BUILTINS = """len range enumerate zip min max sum abs sorted reversed int str bool list tuple dict set
isinstance ord repr any all divmod iter next Exception ValueError TypeError KeyError IndexError LookupError
ZeroDivisionError ArithmeticError OverflowError RuntimeError NotImplementedError NotImplemented""".split()

LIBRARY = {"heapq": ["heappush", "heappop", "heapify"], "math": ["gcd", "lcm", "isqrt"]}

BARRED_NODES = (
    ast.Global, ast.AsyncFunctionDef, ast.AsyncFor, ast.AsyncWith, ast.Await, ast.Import, ast.Div, ast.MatMult,
    ast.TryStar,
)

BARRED_WORDS = """typing typing_extensions Enum IntEnum StrEnum Flag IntFlag Generic Protocol ABC ABCMeta
namedtuple NamedTuple TypedDict TYPE_CHECKING abstractmethod register mro elements open input law Meta""".split()

CHANGING = """append clear extend insert pop remove reverse setdefault update add discard sort""".split()

# Calls whose result is made for the one who calls.
NEW = """list tuple dict sorted range numbers_of toggle_order""".split()

MODULE_LEVEL = (ast.Expr, ast.ImportFrom, ast.FunctionDef, ast.ClassDef, ast.Assign)


def sources():
    return {path: path.read_text("utf-8") for path in sorted(PACKAGE.rglob("*.py"))}


def nodes_of(kind):
    for path, text in sources().items():
        for node in ast.walk(ast.parse(text)):
            if isinstance(node, kind):
                yield path, node


def changed_in(loop):
    """What the rows of a loop change: lists and dicts whose items are set or deleted, or that a method changes."""
    for node in (node for row in loop.body for node in ast.walk(row)):
        if isinstance(node, ast.Subscript) and not isinstance(node.ctx, ast.Load):
            yield node.value
        if isinstance(node, ast.Call) and isinstance(node.func, ast.Attribute) and node.func.attr in CHANGING:
            yield node.func.value


def walked_by(loop):
    """What a loop goes over, without the views and pairs around it."""
    waiting = [loop.iter]
    while waiting:
        node = waiting.pop()
        if isinstance(node, ast.Call) and isinstance(node.func, ast.Attribute) and not node.args:
            if node.func.attr in ("items", "keys", "values"):
                waiting.append(node.func.value)
                continue
        if isinstance(node, ast.Call) and getattr(node.func, "id", None) in ("enumerate", "zip", "reversed"):
            waiting += node.args
            continue
        if isinstance(node, ast.IfExp):
            waiting += [node.body, node.orelse]
            continue
        yield node


def is_new(node, function):
    """Return True if the value was made in this function, so that nothing else is the same object."""
    if isinstance(node, ast.Name):
        given = [row.value for row in ast.walk(function) if isinstance(row, ast.Assign)
                 for target in row.targets if isinstance(target, ast.Name) and target.id == node.id]
        return len(given) > 0 and all(not isinstance(value, ast.Name) and is_new(value, function) for value in given)
    if isinstance(node, ast.BinOp):
        return isinstance(node.left, ast.List) or isinstance(node.right, ast.List)
    if isinstance(node, ast.Call):
        return getattr(node.func, "id", None) in NEW
    return isinstance(node, (ast.List, ast.Tuple, ast.Dict, ast.ListComp, ast.DictComp))


class LanguageTest(unittest.TestCase):

    def fail_at(self, path, node, why):
        self.fail(f"{path.name}:{node.lineno}: {why}")

    def test_the_folder_contains_nothing_else(self):
        others = [path.name for path in PACKAGE.rglob("*") if path.suffix != ".py" and "__pycache__" not in path.parts]
        self.assertEqual(others, [])

    def test_sizes_and_characters(self):
        for path, text in sources().items():
            lines = text.split("\n")
            self.assertLessEqual(len(lines), 400, path.name)
            self.assertLessEqual(max(len(line) for line in lines), 120, path.name)
            self.assertTrue(all(mark == "\n" or " " <= mark <= "~" for mark in text), path.name)
        for path, node in nodes_of(ast.FunctionDef):
            if node.end_lineno - node.lineno + 1 > 40:
                self.fail_at(path, node, "more than 40 lines")

    def test_no_warnings(self):
        with warnings.catch_warnings():
            warnings.simplefilter("error")
            for path, text in sources().items():
                compile(text, path.name, "exec")

    def test_imports(self):
        for path, node in nodes_of(ast.ImportFrom):
            names = [alias.name for alias in node.names]
            if node.module in LIBRARY:
                self.assertLessEqual(set(names), set(LIBRARY[node.module]), path.name)
                continue
            self.assertTrue(node.level == 0 and node.module.startswith("livecopy."), path.name)
            defined = ast.parse((PACKAGE / f"{node.module.split('.')[1]}.py").read_text("utf-8")).body
            known = {part.name for part in defined if isinstance(part, (ast.FunctionDef, ast.ClassDef))}
            known |= {part.targets[0].id for part in defined if isinstance(part, ast.Assign)}
            self.assertLessEqual(set(names), known, path.name)

    def test_module_level(self):
        for path, text in sources().items():
            for node in ast.parse(text).body:
                if not isinstance(node, MODULE_LEVEL):
                    self.fail_at(path, node, "not at module level")

    def test_statements_and_operators(self):
        for path, node in nodes_of(BARRED_NODES):
            self.fail(f"{path.name}: {node.__class__.__name__}")
        for path, node in nodes_of((ast.FunctionDef, ast.ClassDef)):
            for decorator in node.decorator_list:
                if getattr(decorator, "id", None) not in ("staticmethod", "classmethod", "property"):
                    self.fail_at(path, node, "decorator")

    def test_constants(self):
        for path, node in nodes_of(ast.Constant):
            if isinstance(node.value, float):
                self.fail_at(path, node, "a float")
            if isinstance(node.value, str) and "%" in node.value:
                self.fail_at(path, node, "a barred character")

    def test_builtins(self):
        barred = set(dir(builtins)) - set(BUILTINS)
        for path, node in nodes_of(ast.Name):
            if node.id in barred and not isinstance(node.ctx, ast.Load):
                self.fail_at(path, node, f"{node.id} is a builtin")
            if node.id in barred and node.id not in ("staticmethod", "classmethod", "property", "super"):
                self.fail_at(path, node, f"{node.id} is not allowed")
        for path, node in nodes_of(ast.arg):
            if node.arg in dir(builtins):
                self.fail_at(path, node, f"{node.arg} is a builtin")

    def test_words(self):
        for path, node in nodes_of((ast.Name, ast.Attribute, ast.FunctionDef, ast.arg)):
            name = next(getattr(node, key) for key in ("id", "attr", "name", "arg") if hasattr(node, key))
            if name in BARRED_WORDS:
                self.fail_at(path, node, f"{name} is barred")

    def test_names_are_bound_once(self):
        for path, text in sources().items():
            tree = ast.parse(text)
            imported = {alias.name for part in tree.body if isinstance(part, ast.ImportFrom) for alias in part.names}
            defined = {part.name for part in tree.body if isinstance(part, (ast.FunctionDef, ast.ClassDef))}
            self.assertEqual(imported & defined, set(), path.name)
            used = {node.id for node in ast.walk(tree) if isinstance(node, ast.Name)}
            self.assertLessEqual(imported, used, path.name)
            for node in ast.walk(tree):
                name = getattr(node, "arg", None)
                if isinstance(node, ast.Name) and isinstance(node.ctx, ast.Store):
                    name = node.id
                if name in imported | defined and not isinstance(node, ast.keyword):
                    self.fail_at(path, node, f"{name} has another meaning in this file")

    def test_methods_and_attributes_have_different_names(self):
        # Narrower than L18, which lets some names be both in different classes.
        methods = {part.name for _, node in nodes_of(ast.ClassDef) for part in node.body if isinstance(part, ast.FunctionDef)}
        for path, node in nodes_of(ast.Attribute):
            if isinstance(node.ctx, ast.Store) and node.attr in methods:
                self.fail_at(path, node, f"{node.attr} is a method and an attribute")

    def test_captured_names_are_read_in_their_own_case(self):
        for path, function in nodes_of(ast.FunctionDef):
            captured = {node.name for node in ast.walk(function) if isinstance(node, ast.MatchAs) and node.name}
            inside = [node for case in ast.walk(function) if isinstance(case, ast.match_case) for node in ast.walk(case)]
            for node in ast.walk(function):
                if isinstance(node, ast.arg) and node.arg in captured:
                    self.fail_at(path, node, f"{node.arg} is captured and a parameter")
                if isinstance(node, ast.Name) and node.id in captured:
                    if isinstance(node.ctx, ast.Store) or not any(node is other for other in inside):
                        self.fail_at(path, node, f"{node.id} is captured and has another meaning")

    def test_identity(self):
        for path, node in nodes_of(ast.Compare):
            for operator, side in zip(node.ops, node.comparators):
                if isinstance(operator, (ast.Is, ast.IsNot)) and not isinstance(side, ast.Constant):
                    self.fail_at(path, node, "identity of something other than None, True and False")

    def test_what_a_loop_goes_over_is_not_changed_in_it(self):
        for path, function in nodes_of(ast.FunctionDef):
            parameters = [arg.arg for arg in function.args.args]
            for loop in ast.walk(function):
                if isinstance(loop, ast.For):
                    self.check_loop(path, function, loop, parameters)

    def check_loop(self, path, function, loop, parameters):
        for walked in walked_by(loop):
            for changed in changed_in(loop):
                if ast.dump(walked) == ast.dump(changed):
                    self.fail_at(path, loop, "the loop changes what it goes over")
                # A parameter is the caller's own; a field, or what came out of one, may be a second name.
                apart = is_new(walked, function) or is_new(changed, function)
                if not apart and getattr(walked, "id", None) not in parameters and isinstance(changed, ast.Attribute):
                    self.fail_at(path, loop, "the loop may change what it goes over")


if __name__ == "__main__":
    unittest.main()
