"""The parts of the language rules that are easy to check, and the interface as it is listed."""

import ast
import builtins
import importlib
import inspect
import pathlib
import unittest

PACKAGE = pathlib.Path(__file__).resolve().parent.parent / "centbook"
FILES = sorted(path for path in PACKAGE.iterdir() if path.name != "__pycache__")
LIBRARY = {
    "math": {"gcd", "lcm", "isqrt", "comb", "perm", "factorial"},
    "heapq": {"heappush", "heappop", "heapify", "heapreplace", "heappushpop"},
    "itertools": {"product", "combinations", "permutations", "chain", "accumulate", "pairwise", "islice", "zip_longest"},
    "collections": {"defaultdict"},
}
BUILTINS = set(
    "len range enumerate zip min max sum abs sorted reversed int str bool bytes list tuple dict set frozenset isinstance"
    " ord repr any all divmod pow getattr hasattr setattr iter next map super property staticmethod classmethod"
    " Exception ValueError TypeError KeyError IndexError LookupError ZeroDivisionError ArithmeticError OverflowError"
    " RuntimeError NotImplementedError AttributeError StopIteration NotImplemented".split()
)
METHODS = set(
    "append clear copy count endswith extend find get index insert isalnum isalpha isdigit islower isspace isupper"
    " items join keys ljust lower lstrip partition pop remove replace reverse rfind rjust rpartition rsplit rstrip"
    " setdefault split splitlines startswith strip update upper values zfill bit_length removeprefix removesuffix".split()
)
NOT_USED = (
    ast.Global, ast.AsyncFunctionDef, ast.Await, ast.AsyncFor, ast.AsyncWith, ast.GeneratorExp, ast.Div, ast.MatMult, ast.Lambda,
)
# Methods that change what they are called on.
CHANGING = set("append clear extend insert pop remove reverse setdefault update sort add discard".split())
# Besides operators, these are to change nothing.
LOOKING = {"__eq__", "__str__", "__repr__", "__len__"}

# For each module its functions with their arguments, and its classes with the arguments of their methods.
INTERFACE = {
    "errors": {
        "CentError": {}, "PaperError": {}, "BookError": {}, "TextError": {}, "InvalidPaper": {"__init__": "word at"},
        "UnknownLine": {"__init__": "name"}, "InvalidStep": {"__init__": "step reason"}, "InvalidAmount": {"__init__": "value"},
        "NothingToUndo": {"__init__": "steps"}, "InvalidText": {"__init__": "row field"}, "InvalidCommand": {"__init__": "text"},
    },
    "amounts": {"Amount": {"__init__": "over under=1", "compared": "other"}},
    "kinds": {name: "thing" for name in ("is_integer", "is_number", "is_name", "is_fraction", "is_state", "is_sheet")},
    "sheetchecker": {"lets_sheet": "thing"},
    "sheets": {"fresh": "*lines", "state_after": "sheet booking", "part": "sheet first count"},
    "tariffs": {
        "Tariff": {"__init__": "* price", "__call__": "quantity", "counted": "quantity"}, "Started": {}, "Free": {}, "Basic": {},
        "FreeStarted": {}, "StartedFree": {}, "BasicFree": {}, "BasicStarted": {}, "charges_of": "tariffs *quantities",
    },
    "sheettexts": {"sheet_text": "sheet"},
    "sheetreadings": {"sheet_read": "text", "fraction_read": "text"},
    "sums": {
        "sums_of": "sheet", "entries_of": "sheet which", "exact_of": "sheet which", "least_of": "sheet which",
        "most_of": "sheet which", "fixed_of": "sheet which", "cents_of": "sheet booking which", "is_close": "sheet booking",
    },
    "bookingchecker": {"lets_booking": "sheet thing"},
    "findings": {"found_booking": "sheet", "stuck_list": "sheet"},
    "stuckchecker": {"lets_stuck": "sheet thing"},
    "exchanges": {"exchanges": "sheet booking", "exchanged": "sheet booking *some", "way_between": "sheet one other"},
    "bookings": {"bookings_of": "sheet", "all_ends": "sheet", "booking_to": "sheet cents"},
    "forced": {"forced_entries": "sheet", "is_free": "sheet d i"},
    "entrypapers": {"entry_paper": "sheet d i"},
    "entrychecker": {"lets_entry": "sheet d i thing"},
    "pricing": {"price_of": "prices booking", "cheapest": "sheet prices"},
    "cheapestpapers": {"cheapest_paper": "sheet prices"},
    "cheapestchecker": {"lets_cheapest": "sheet prices thing"},
    "states": {
        "offs": "state", "balances": "state", "is_close_state": "state", "is_open": "state", "open_states": "state",
    },
    "breaking": {"breaking_day": "state", "room": "state"},
    "breakchecker": {"lets_broken": "state thing", "lets_room": "state thing"},
    "breakpapers": {"broken_paper": "state", "room_paper": "state"},
    "correcting": {"corrected": "state", "corrections": "sheet"},
    "correctionpapers": {"correction_paper": "sheet"},
    "correctionchecker": {"lets_corrections": "sheet thing"},
    "steadiness": {"steady": "sheet"},
    "steadychecker": {"lets_steady": "sheet thing"},
    "steadypapers": {"steady_paper": "sheet"},
    "books": {"Book": {
        "__init__": "*lines sections=()", "empty": "cls", "read": "cls text", "rounded": "fraction", "state": "", "announced": "",
        "sections": "value", "owed": "", "offs": "", "is_open": "", "room": "", "can_go_on": "", "__getitem__": "at", "__contains__": "x",
        "__len__": "", "__eq__": "other", "__ne__": "other", "__str__": "", "add_line": "name", "set_sections": "value", "withdraw": "",
        "end": "line", "go": "step", "barred": "step", "announce": "**charges", "correct": "**changes", "send": "cents=None", "choices": "",
        "days": "", "invoice": "day", "do_all": "*steps keep=False", "tried": "*steps", "log": "", "undo": "", "counts": "",
    }},
    "replaying": {"is_log": "thing", "replayed": "log"},
    "steprows": {"step_row": "step", "log_rows": "log"},
    "rowreadings": {"read_step": "text", "read_log": "rows"},
    "desk": {"Desk": {"say": "text", "counts": ""}},
}


TREES = [(path, ast.parse(path.read_text(encoding="utf-8"))) for path in FILES]


def trees():
    return TREES


def names_bound(tree):
    """All names of functions, classes, parameters and variables of a file, but not those of methods."""
    methods = {id(each) for one in ast.walk(tree) if isinstance(one, ast.ClassDef) for each in one.body}
    for node in ast.walk(tree):
        if isinstance(node, (ast.FunctionDef, ast.ClassDef)) and id(node) not in methods:
            yield node.name
        elif isinstance(node, ast.arg):
            yield node.arg
        elif isinstance(node, ast.Name) and isinstance(node.ctx, (ast.Store, ast.Del)):
            yield node.id


def arguments_of(node):
    """The arguments of a function as text, without self."""
    found = []
    plain = node.args.args
    defaults = [None] * (len(plain) - len(node.args.defaults)) + node.args.defaults
    for one, default in zip(plain, defaults):
        if one.arg != "self":
            found.append(one.arg if default is None else f"{one.arg}={ast.unparse(default)}")
    if node.args.vararg:
        found.append("*" + node.args.vararg.arg)
    elif node.args.kwonlyargs:
        found.append("*")
    for one, default in zip(node.args.kwonlyargs, node.args.kw_defaults):
        found.append(one.arg if default is None else f"{one.arg}={ast.unparse(default)}")
    if node.args.kwarg:
        found.append("**" + node.args.kwarg.arg)
    return " ".join(found)


def classes():
    for _, tree in trees():
        for node in tree.body:
            if isinstance(node, ast.ClassDef):
                yield node


def functions_of(name):
    """All functions, methods and constructors of the package that a call of this name may run."""
    found = []
    for _, tree in trees():
        found.extend(node for node in ast.walk(tree) if isinstance(node, ast.FunctionDef) and node.name == name)
        found.extend(
            each for node in tree.body if isinstance(node, ast.ClassDef) and node.name == name
            for each in node.body if isinstance(each, ast.FunctionDef) and each.name == "__init__"
        )
    return found


def is_made_here(value):
    """Whether an expression makes a new list or dict."""
    if isinstance(value, ast.Call):
        return isinstance(value.func, ast.Name) and value.func.id in ("list", "dict", "sorted")
    return isinstance(value, (ast.List, ast.Dict, ast.ListComp, ast.DictComp))


def made_here(function):
    """The local variables of a function that are assigned new lists or dicts only."""
    made, other = set(), {one.arg for one in function.args.args}
    for node in ast.walk(function):
        if isinstance(node, ast.Assign):
            for target in node.targets:
                names = {one.id for one in ast.walk(target) if isinstance(one, ast.Name) and isinstance(one.ctx, ast.Store)}
                if isinstance(target, ast.Name) and is_made_here(node.value):
                    made |= names
                else:
                    other |= names
    return made - other


def changes_in(function):
    """What a function changes that it did not make itself, as rows of code."""
    made = made_here(function)
    for node in ast.walk(function):
        targets = []
        if isinstance(node, (ast.Assign, ast.Delete)):
            targets = node.targets
        elif isinstance(node, (ast.AugAssign, ast.AnnAssign)):
            targets = [node.target]
        for target in targets:
            for one in ast.walk(target):
                own = isinstance(one, ast.Attribute) and function.name == "__init__" and ast.unparse(one.value) == "self"
                fresh = isinstance(one, ast.Subscript) and isinstance(one.value, ast.Name) and one.value.id in made
                if isinstance(one, (ast.Attribute, ast.Subscript)) and isinstance(one.ctx, (ast.Store, ast.Del)) and not own and not fresh:
                    yield ast.unparse(node)
        if isinstance(node, ast.Call) and isinstance(node.func, ast.Attribute) and node.func.attr in CHANGING:
            if not isinstance(node.func.value, ast.Name) or node.func.value.id not in made:
                yield ast.unparse(node)


class LanguageTest(unittest.TestCase):
    def test_files(self):
        for path in FILES:
            self.assertEqual(path.suffix, ".py")
            self.assertTrue(path.stem.replace("_", "").isalnum() and path.stem == path.stem.lower())
        self.assertIn(PACKAGE / "__init__.py", FILES)
        self.assertLessEqual(len(FILES), 100)

    def test_sizes_and_characters(self):
        for path in FILES:
            text = path.read_text(encoding="utf-8")
            self.assertTrue(all(" " <= letter <= "~" or letter == "\n" for letter in text), path)
            rows = text.split("\n")
            self.assertLessEqual(len(rows), 400, path)
            self.assertLessEqual(max(map(len, rows)), 120, path)

    def test_functions_are_short(self):
        for path, tree in trees():
            for node in ast.walk(tree):
                if isinstance(node, ast.FunctionDef):
                    self.assertLessEqual(node.end_lineno - node.lineno + 1, 40, (path, node.name))

    def test_imports(self):
        needs = {}
        for path, tree in trees():
            needs[path.stem] = []
            for node in ast.walk(tree):
                self.assertNotIsInstance(node, ast.Import)
                if not isinstance(node, ast.ImportFrom):
                    continue
                self.assertIn(node, tree.body)
                self.assertTrue(all(each.asname is None for each in node.names))
                names = {each.name for each in node.names}
                if node.module in LIBRARY:
                    self.assertLessEqual(names, LIBRARY[node.module])
                    continue
                package, module = node.module.split(".")
                self.assertEqual((package, node.level), ("centbook", 0))
                needs[path.stem].append(module)
                there = ast.parse((PACKAGE / f"{module}.py").read_text(encoding="utf-8"))
                defined = {each.name for each in there.body if isinstance(each, (ast.FunctionDef, ast.ClassDef))}
                defined |= {each.targets[0].id for each in there.body if isinstance(each, ast.Assign)}
                self.assertLessEqual(names, defined)
        done = set()
        while len(done) < len(needs):
            ready = {stem for stem in needs if stem not in done and set(needs[stem]) <= done}
            self.assertTrue(ready, "files import from each other")
            done |= ready

    def test_statements_and_names(self):
        for path, tree in trees():
            taken = {each.name for node in tree.body if isinstance(node, ast.ImportFrom) for each in node.names}
            taken |= {node.name for node in tree.body if isinstance(node, ast.ClassDef)}
            for node in ast.walk(tree):
                self.assertNotIsInstance(node, NOT_USED, path)
                if isinstance(node, ast.Name) and hasattr(builtins, node.id):
                    self.assertIn(node.id, BUILTINS, path)
                if isinstance(node, ast.Constant):
                    self.assertNotIsInstance(node.value, (float, complex, bytes))
                    self.assertFalse(isinstance(node.value, str) and chr(37) in node.value)
            for name in names_bound(tree):
                self.assertFalse(hasattr(builtins, name), (path, name))
            bound = [name for name in names_bound(tree) if name not in {node.name for node in tree.body if isinstance(node, ast.ClassDef)}]
            self.assertFalse(taken & set(bound), path)

    def test_only_own_errors_are_caught(self):
        errors = set(INTERFACE["errors"])
        for path, tree in trees():
            for node in ast.walk(tree):
                if isinstance(node, ast.Try):
                    self.assertEqual((node.finalbody, node.orelse), ([], []))
                    self.assertLessEqual({ast.unparse(one.type) for one in node.handlers}, errors, path)

    def test_what_looks_changes_nothing(self):
        """Operators, properties and the like, and all that they call."""
        todo = []
        for node in classes():
            for each in node.body:
                if isinstance(each, ast.FunctionDef):
                    operator = each.name.startswith("__") and each.name not in ("__init__", "__call__", "__iter__")
                    shown = any(isinstance(one, ast.Name) and one.id == "property" for one in each.decorator_list)
                    if operator or shown or each.name in LOOKING:
                        todo.append(each)
        self.assertGreater(len(todo), 25)
        done, names = {}, set()
        while todo:
            function = todo.pop()
            if id(function) in done or (function.name, function.lineno) in names:
                continue
            done[id(function)] = function
            names.add((function.name, function.lineno))
            self.assertEqual(list(changes_in(function)), [], function.name)
            for node in ast.walk(function):
                if isinstance(node, ast.Call):
                    called = node.func.id if isinstance(node.func, ast.Name) else node.func.attr
                    given = {one.arg for one in function.args.args}
                    self.assertFalse(isinstance(node.func, ast.Name) and called in given, (function.name, called))
                    todo.extend(functions_of(called))
        self.assertLessEqual({"steps_from", "reached", "room_days", "pushing_day", "step_row", "integer_text", "is_open"}, {name for name, _ in names})

    def test_names_of_methods_and_attributes(self):
        """Generators have names of their own, and no method or property has the name of an attribute."""
        generators, others, attributes, methods = [], set(), set(), set()
        for _, tree in trees():
            for node in ast.walk(tree):
                if isinstance(node, ast.FunctionDef):
                    if any(isinstance(one, (ast.Yield, ast.YieldFrom)) for one in ast.walk(node)):
                        generators.append(node.name)
                    else:
                        others.add(node.name)
                elif isinstance(node, ast.Attribute) and isinstance(node.ctx, ast.Store):
                    attributes.add(node.attr)
                elif isinstance(node, ast.ClassDef):
                    methods |= {each.name for each in node.body if isinstance(each, ast.FunctionDef)}
        self.assertEqual(len(generators), len(set(generators)))
        self.assertFalse(set(generators) & (others | METHODS))
        self.assertEqual(attributes & methods, set())

    def test_reversed_and_brackets(self):
        """A class has brackets: so reversed takes a plain list or range."""
        for path, tree in trees():
            for node in ast.walk(tree):
                if isinstance(node, ast.Call) and isinstance(node.func, ast.Name) and node.func.id == "reversed":
                    inner = node.args[0]
                    self.assertTrue(isinstance(inner, ast.Call) and inner.func.id in ("list", "tuple", "sorted", "range"), path)
        for node in classes():
            methods = {each.name for each in node.body if isinstance(each, ast.FunctionDef)}
            self.assertNotIn("keys", methods)
            self.assertIs("__getitem__" in methods, "__iter__" in methods)

    def test_module_level(self):
        for path, tree in trees():
            for node in tree.body:
                if isinstance(node, ast.Expr):
                    self.assertIsInstance(node.value, ast.Constant)
                else:
                    self.assertIsInstance(node, (ast.ImportFrom, ast.FunctionDef, ast.ClassDef, ast.Assign), path)

    def test_methods_that_are_called(self):
        own = {
            each.name for _, tree in trees() for node in ast.walk(tree) if isinstance(node, ast.ClassDef)
            for each in node.body if isinstance(each, ast.FunctionDef)
        }
        for path, tree in trees():
            for node in ast.walk(tree):
                if isinstance(node, ast.Call) and isinstance(node.func, ast.Attribute):
                    self.assertIn(node.func.attr, METHODS | own, path)

    def test_generators_are_iterated_at_once(self):
        generators = set()
        for _, tree in trees():
            for node in ast.walk(tree):
                if isinstance(node, ast.FunctionDef) and any(isinstance(one, (ast.Yield, ast.YieldFrom)) for one in ast.walk(node)):
                    generators.add(node.name)
        self.assertIn("sums_of", generators)
        for path, tree in trees():
            good = set()
            for node in ast.walk(tree):
                if isinstance(node, (ast.For, ast.comprehension)):
                    good.add(id(node.iter))
                elif isinstance(node, ast.YieldFrom):
                    good.add(id(node.value))
                elif isinstance(node, ast.Call) and isinstance(node.func, ast.Name) and node.func.id in ("list", "tuple") and node.args:
                    good.add(id(node.args[0]))
            for node in ast.walk(tree):
                if isinstance(node, ast.Call) and isinstance(node.func, ast.Name) and node.func.id in generators:
                    self.assertIn(id(node), good, (path, node.lineno))

    def test_interface(self):
        for module, listed in INTERFACE.items():
            tree = ast.parse((PACKAGE / f"{module}.py").read_text(encoding="utf-8"))
            defined = {node.name: node for node in tree.body if isinstance(node, (ast.FunctionDef, ast.ClassDef))}
            for name, wanted in listed.items():
                node = defined[name]
                if isinstance(wanted, str):
                    self.assertEqual(arguments_of(node), wanted, name)
                    continue
                methods = {each.name: each for each in node.body if isinstance(each, ast.FunctionDef)}
                for method, arguments in wanted.items():
                    self.assertEqual(arguments_of(methods[method]), arguments, (name, method))

    def test_generators_of_the_interface(self):
        for module, names in {
            "sums": ["sums_of"], "exchanges": ["exchanges"], "bookings": ["bookings_of", "all_ends"], "states": ["open_states"],
        }.items():
            for name in names:
                self.assertTrue(inspect.isgeneratorfunction(getattr(importlib.import_module(f"centbook.{module}"), name)))
        for name in ("choices", "days"):
            self.assertTrue(inspect.isgeneratorfunction(getattr(importlib.import_module("centbook.books").Book, name)))


if __name__ == "__main__":
    unittest.main()
