"""The rules of the language in which the package is written, as far as a look at its files can tell."""

import ast
import builtins
import os
import re
import unittest

ROOT = os.path.join(os.path.dirname(os.path.dirname(os.path.abspath(__file__))), "arrivalmill")
BUILTINS = set((
    "len range enumerate zip min max sum abs sorted reversed int str bool list tuple dict isinstance ord repr any all "
    "divmod ValueError").split())
METHODS = set((
    "append clear copy count endswith extend find get index insert isalnum isalpha isdigit islower isspace isupper "
    "items join keys ljust lower lstrip partition pop remove replace reverse rfind rjust rpartition rsplit rstrip "
    "setdefault split splitlines startswith strip update upper values zfill bit_length isascii").split())
DOUBLE = {"__init__", "__eq__", "__len__", "__contains__", "__repr__", "__str__"}
BARRED_NAMES = set((
    "register mro elements open input law version_info with_traceback add_note attrgetter breakpoint builtins compile "
    "copyright credits delattr dir eval exec exit gc getattr globals hasattr help id importlib license locals "
    "methodcaller os quit setattr super type vars sys").split())
BARRED_WORDS = re.compile(
    r"\b(type|typing|typing_extensions|enum|Enum|IntEnum|StrEnum|Flag|IntFlag|Generic|Protocol|ABC|ABCMeta|namedtuple|"
    r"NamedTuple|TypedDict|TYPE_CHECKING|abstractmethod)\b|dataclass|overload|contextmanager|_wall|_WallAttr")
BARRED_STARTS = ("_wall", "_pe_", "_dcw_", "_enum_", "_cm_", "_twin_re_", "_lay_", "_law_", "_stub_", "_sre", "__",
                 "_cold", "_tuplegetter", "_outside", "_record", "_written_out", "_member_names")
BARRED_ATTRIBUTES = set((
    "items keys values pop update append clear extend insert remove reverse setdefault sort args encode decode hex "
    "fromhex format format_map mro as_integer_ratio bit_count conjugate from_bytes is_integer to_bytes").split())
EATERS = ("any", "all", "min", "max", "sum", "sorted")


def files():
    return sorted(name for name in os.listdir(ROOT) if name.endswith(".py"))


def source(name):
    with open(os.path.join(ROOT, name), encoding="utf-8") as file:
        return file.read()


TREES = {name: ast.parse(source(name)) for name in files()}


def each(kind):
    for name, tree in TREES.items():
        for node in ast.walk(tree):
            if isinstance(node, kind):
                yield name, node


def functions_of(tree):
    return [node for node in ast.walk(tree) if isinstance(node, ast.FunctionDef)]


def locals_of(function):
    names = {arg.arg for arg in function.args.args + function.args.kwonlyargs}
    names |= {function.args.vararg.arg} if function.args.vararg else set()
    for node in ast.walk(function):
        if isinstance(node, ast.Name) and isinstance(node.ctx, ast.Store):
            names.add(node.id)
    return names


def imports_of(tree):
    return [alias.name for node in tree.body if isinstance(node, ast.ImportFrom) for alias in node.names]


def tops_of(tree):
    names = []
    for node in tree.body:
        if isinstance(node, (ast.FunctionDef, ast.ClassDef)):
            names.append(node.name)
        elif isinstance(node, ast.Assign):
            names.extend(target.id for target in node.targets)
    return names


def attributes():
    found = {}
    for name, node in each(ast.ClassDef):
        for inner in ast.walk(node):
            if isinstance(inner, ast.Attribute) and isinstance(inner.ctx, ast.Store):
                found.setdefault(inner.attr, set()).add(node.name)
    return found


def own_methods():
    return {inner.name for _, node in each(ast.ClassDef) for inner in node.body if isinstance(inner, ast.FunctionDef)}


class Sizes(unittest.TestCase):
    def test_files_lines_and_signs(self):
        for name in files():
            text = source(name)
            lines = text.split("\n")
            self.assertLess(len(lines), 401, name)
            for number, line in enumerate(lines, 1):
                self.assertLess(len(line), 121, (name, number))
                self.assertTrue(all(" " <= sign <= "~" for sign in line), (name, number))
        self.assertEqual([], [name for name in os.listdir(ROOT) if not name.endswith(".py") and name != "__pycache__"])

    def test_functions_are_small(self):
        for name, node in each(ast.FunctionDef):
            self.assertLess(node.end_lineno - node.lineno, 40, (name, node.name))

    def test_public_functions_tell_what_they_do(self):
        for name, node in each((ast.FunctionDef, ast.ClassDef)):
            if not node.name.startswith("_"):
                self.assertTrue(ast.get_docstring(node), (name, node.name))


class Imports(unittest.TestCase):
    def test_they_name_the_file_that_defines(self):
        for name, node in each((ast.Import, ast.ImportFrom)):
            self.assertIsInstance(node, ast.ImportFrom, name)
            self.assertEqual(0, node.level)
            package, _, other = node.module.partition(".")
            self.assertEqual("arrivalmill", package)
            for alias in node.names:
                self.assertIsNone(alias.asname)
                self.assertIn(alias.name, tops_of(TREES[other + ".py"]), (name, other))

    def test_they_stand_at_the_top_and_are_used(self):
        for name, tree in TREES.items():
            seen_other = False
            for node in tree.body[1:]:
                if isinstance(node, ast.ImportFrom):
                    self.assertFalse(seen_other, name)
                else:
                    seen_other = True
            used = {node.id for node in ast.walk(tree) if isinstance(node, ast.Name)}
            self.assertEqual([], [word for word in imports_of(tree) if word not in used], name)

    def test_no_two_files_import_from_each_other(self):
        needs = {name: [node.module.partition(".")[2] + ".py" for node in tree.body if isinstance(node, ast.ImportFrom)]
                 for name, tree in TREES.items()}
        done = set()
        while len(done) < len(needs):
            free = [name for name in needs if name not in done and all(other in done for other in needs[name])]
            self.assertTrue(free, sorted(set(needs) - done))
            done.update(free)


class ModuleLevel(unittest.TestCase):
    def test_only_plain_values_functions_and_classes(self):
        for name, tree in TREES.items():
            for node in tree.body[1:]:
                self.assertIsInstance(node, (ast.ImportFrom, ast.FunctionDef, ast.ClassDef, ast.Assign), name)
                if isinstance(node, ast.Assign):
                    self.assertEqual(1, len(node.targets))
                    self.assertIsInstance(node.targets[0], ast.Name)
                    self.plain(node.value, name, node.lineno, tree, 0)
            names = tops_of(tree) + imports_of(tree)
            self.assertEqual(len(names), len(set(names)), name)

    def plain(self, value, name, line, tree, depth):
        self.assertTrue(depth == 0 or not isinstance(value, (ast.List, ast.Dict)), (name, line))
        if isinstance(value, ast.Constant):
            return
        if isinstance(value, ast.UnaryOp):
            return self.assertIsInstance(value.op, ast.USub)
        if isinstance(value, ast.Name):
            above = [node.name for node in tree.body if isinstance(node, ast.FunctionDef) and node.lineno < line]
            return self.assertIn(value.id, above, (name, line))
        self.assertIsInstance(value, (ast.List, ast.Tuple, ast.Dict), (name, line))
        parts = value.keys + value.values if isinstance(value, ast.Dict) else value.elts
        for part in parts:
            self.plain(part, name, line, tree, depth + 1)

    def test_tables_are_read_and_their_functions_named_before_they_are_called(self):
        for name, node in each(ast.Call):
            self.assertNotIsInstance(node.func, (ast.Subscript, ast.Call, ast.Constant), (name, node.lineno))
        tables = {word for _, node in each(ast.Assign) for word in
                  [target.id for target in node.targets if isinstance(target, ast.Name)]
                  if isinstance(node.value, (ast.Dict, ast.List)) and word.isupper()}
        for name, node in each(ast.Call):
            for argument in node.args:
                inner = argument.value if isinstance(argument, ast.Starred) else argument
                self.assertFalse(isinstance(inner, ast.Name) and inner.id in tables, (name, node.lineno))


class Statements(unittest.TestCase):
    def test_what_is_not_in_the_language(self):
        barred = (ast.AsyncFunctionDef, ast.Global, ast.Set, ast.SetComp, ast.AnnAssign, ast.Div, ast.Import,
                  ast.With, ast.Match, ast.Yield, ast.YieldFrom, ast.NamedExpr, ast.JoinedStr, ast.Pow, ast.Mod,
                  ast.Lambda, ast.Delete, ast.Nonlocal)
        for name, node in each(barred):
            self.fail((name, getattr(node, "lineno", None), type(node)))

    def test_own_errors_alone_are_caught(self):
        errors = tops_of(TREES["errors.py"])
        for name, node in each(ast.Try):
            self.assertEqual(([], []), (node.orelse, node.finalbody), (name, node.lineno))
            for handler in node.handlers:
                kinds = handler.type.elts if isinstance(handler.type, ast.Tuple) else [handler.type]
                self.assertTrue(all(kind.id in errors for kind in kinds), (name, node.lineno))

    def test_no_decorators_or_annotations(self):
        for name, node in each((ast.FunctionDef, ast.ClassDef)):
            self.assertEqual([], node.decorator_list, (name, node.name))
        for name, node in each(ast.FunctionDef):
            self.assertIsNone(node.returns)
            self.assertTrue(all(arg.annotation is None for arg in node.args.args))

    def test_no_star_within_a_subscript(self):
        for name, node in each(ast.Subscript):
            stars = [inner for inner in ast.walk(node.slice) if isinstance(inner, ast.Starred)]
            self.assertEqual([], stars, (name, node.lineno))

    def test_is_stands_beside_none_and_truths(self):
        for name, node in each(ast.Compare):
            for sign, right in zip(node.ops, node.comparators):
                if isinstance(sign, (ast.Is, ast.IsNot)):
                    self.assertIsInstance(right, ast.Constant, (name, node.lineno))

    def test_generator_expressions_are_eaten_at_once(self):
        allowed = []
        for name, node in each(ast.Call):
            for argument in node.args:
                if isinstance(argument, ast.GeneratorExp):
                    told = node.func.id if isinstance(node.func, ast.Name) else node.func.attr
                    self.assertIn(told, ("tuple", "list", "dict", "join"), (name, node.lineno))
                    allowed.append(argument)
                elif isinstance(node.func, ast.Name) and node.func.id in EATERS and len(node.args) == 1:
                    self.assertIsInstance(argument, (ast.ListComp, ast.List, ast.Dict, ast.Name, ast.Attribute, ast.Call))
        self.assertEqual(len(allowed), len(list(each(ast.GeneratorExp))))

    def test_attributes_are_assigned_through_local_names(self):
        for name, node in each(ast.Attribute):
            if isinstance(node.ctx, ast.Store):
                self.assertIsInstance(node.value, ast.Name, (name, node.lineno))

    def test_what_a_loop_goes_over_is_not_modified_in_it(self):
        for name, node in each(ast.For):
            over = ast.unparse(node.iter)
            for inner in [part for row in node.body for part in ast.walk(row)]:
                if isinstance(inner, ast.Call) and isinstance(inner.func, ast.Attribute) and inner.func.attr in ("append", "extend", "remove", "pop", "insert", "clear", "reverse", "update", "setdefault"):
                    self.assertNotEqual(over, ast.unparse(inner.func.value), (name, node.lineno))

    def test_errors_are_made_where_they_are_raised(self):
        errors = tops_of(TREES["errors.py"])
        for name, node in each(ast.Raise):
            self.assertIsInstance(node.exc, ast.Call, (name, node.lineno))
            self.assertIn(node.exc.func.id, errors)
            self.assertEqual(1, len(node.exc.args))

    def test_comprehensions_stand_in_functions(self):
        inside = [node for _, function in each(ast.FunctionDef) for node in ast.walk(function)
                  if isinstance(node, (ast.ListComp, ast.DictComp, ast.GeneratorExp))]
        self.assertEqual(len(set(inside)), len(list(each((ast.ListComp, ast.DictComp, ast.GeneratorExp)))))

    def test_what_a_loop_goes_over_is_not_assigned_in_it(self):
        for name, node in each(ast.For):
            over = {inner.id for inner in ast.walk(node.iter) if isinstance(inner, ast.Name)}
            for inner in [part for row in node.body for part in ast.walk(row)]:
                if isinstance(inner, ast.Name) and isinstance(inner.ctx, ast.Store):
                    self.assertNotIn(inner.id, over, (name, node.lineno))
                if isinstance(inner, ast.Call) and isinstance(inner.func, ast.Attribute):
                    holder = inner.func.value
                    if isinstance(holder, ast.Name) and inner.func.attr in ("append", "extend", "remove", "pop"):
                        self.assertNotIn(holder.id, over, (name, node.lineno))


class Names(unittest.TestCase):
    def test_builtins(self):
        everything = set(dir(builtins))
        for name, tree in TREES.items():
            known = set(tops_of(tree)) | set(imports_of(tree))
            for function in functions_of(tree):
                known |= locals_of(function)
            for node in ast.walk(tree):
                if isinstance(node, ast.Name) and node.id in everything and node.id not in BUILTINS:
                    self.fail((name, node.lineno, node.id))
                if isinstance(node, ast.Name) and isinstance(node.ctx, ast.Load):
                    self.assertTrue(node.id in known or node.id in BUILTINS, (name, node.lineno, node.id))

    def test_no_name_means_something_else(self):
        everything = set(dir(builtins))
        for name, tree in TREES.items():
            barred = everything | set(imports_of(tree)) | BARRED_NAMES
            barred |= {node.name for node in tree.body if isinstance(node, ast.ClassDef)}
            for function in functions_of(tree):
                for word in locals_of(function):
                    self.assertNotIn(word, barred, (name, function.name))
            for word in tops_of(tree):
                self.assertNotIn(word, everything | BARRED_NAMES, name)
                self.assertFalse(word.startswith(BARRED_STARTS), (name, word))

    def test_methods_and_attributes(self):
        found = attributes()
        methods = own_methods()
        self.assertEqual([], sorted(set(found) & BARRED_ATTRIBUTES))
        self.assertEqual([], sorted(set(found) & methods))
        self.assertEqual(["copy"], sorted(methods & METHODS))
        for word in methods:
            self.assertTrue(word in DOUBLE or not word.startswith("__"), word)
        calls = {id(node.func) for _, node in each(ast.Call)}
        for name, node in each(ast.Attribute):
            if id(node) in calls:
                self.assertTrue(node.attr in METHODS or node.attr in methods, (name, node.lineno, node.attr))
            else:
                self.assertIn(node.attr, found, (name, node.lineno))

    def test_keywords_of_calls(self):
        for name, node in each(ast.Call):
            for keyword in node.keywords:
                self.assertEqual("key", keyword.arg, (name, node.lineno))
                self.assertEqual("sorted", node.func.id)
                self.assertIn(keyword.value.id, tops_of(TREES[name]) + imports_of(TREES[name]), (name, node.lineno))

    def test_stars_in_calls(self):
        for name, node in each(ast.Call):
            for argument in node.args:
                if isinstance(argument, ast.Starred):
                    self.assertIsInstance(argument.value, (ast.Name, ast.Attribute), (name, node.lineno))
                    behind = node.args[node.args.index(argument) + 1:]
                    self.assertTrue(all(isinstance(one, (ast.Name, ast.Starred)) for one in behind), (name, node.lineno))

    def test_underscore_is_never_read(self):
        for name, node in each(ast.Name):
            self.assertFalse(node.id == "_" and isinstance(node.ctx, ast.Load), (name, node.lineno))

    def test_strings(self):
        for name, tree in TREES.items():
            docs = {id(node.body[0].value) for node in ast.walk(tree)
                    if isinstance(node, (ast.Module, ast.FunctionDef, ast.ClassDef)) and ast.get_docstring(node)}
            for node in ast.walk(tree):
                if isinstance(node, ast.Constant) and isinstance(node.value, str) and id(node) not in docs:
                    self.assertNotIn("%", node.value, (name, node.lineno))
                    self.assertIsNone(BARRED_WORDS.search(node.value), (name, node.lineno))
                    self.assertFalse(node.value.endswith(("._", ".__")))
                if isinstance(node, ast.Constant):
                    self.assertNotIsInstance(node.value, (float, bytes, complex))

    def test_identifiers(self):
        for name, tree in TREES.items():
            for node in ast.walk(tree):
                word = getattr(node, "id", None) or getattr(node, "attr", None) or getattr(node, "name", None)
                if isinstance(word, str) and not word.startswith("arrivalmill"):
                    self.assertIsNone(BARRED_WORDS.search(word), (name, word))
                    self.assertTrue(word in DOUBLE or not word.startswith(BARRED_STARTS), (name, word))


if __name__ == "__main__":
    unittest.main()
