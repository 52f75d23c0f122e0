"""Those rules of the language of the package that a look at its syntax can decide."""

import ast
import builtins
import inspect
import os
import re
import unittest

import whoheld

FOLDER = os.path.dirname(whoheld.__file__)
BUILTINS = set(
    "len range enumerate zip min max sum abs sorted reversed int str bool bytes list tuple dict set isinstance ord repr "
    "any all divmod pow Exception ValueError TypeError KeyError IndexError LookupError ZeroDivisionError "
    "ArithmeticError OverflowError RuntimeError NotImplementedError AttributeError NotImplemented super "
    "property classmethod staticmethod".split()
)
METHODS = set(
    "append clear copy count endswith extend find get index insert isalnum isalpha isdigit islower isspace isupper items "
    "join keys ljust lower lstrip partition pop remove replace reverse rfind rjust rpartition rsplit rstrip setdefault "
    "split splitlines startswith strip update upper values zfill bit_length".split()
)
MODIFYING = set("append clear extend insert pop remove reverse setdefault update sort add discard".split())
DOUBLE = set(
    "__init__ __eq__ __repr__ __str__ __len__ __enter__ __exit__ __call__ __iter__ __lt__ __le__ __gt__ __ge__ __ne__ "
    "__contains__ __getitem__ __bool__".split()
)
BARRED_NAMES = set(
    "register mro elements open input law version_info with_traceback add_note attrgetter breakpoint compile delattr dir "
    "eval exec exit gc globals help id importlib locals methodcaller os quit type vars sys".split()
)
BARRED_WORDS = re.compile(
    r"\b(type|typing|enum|Enum|Flag|Generic|Protocol|ABC|namedtuple|abstractmethod|_wall|_WallAttr)\b"
    r"|dataclass|overload|contextmanager|\(type\)|Meta|metaclass="
)
BARRED_BEGINNINGS = ("_wall", "_pe_", "_dcw_", "_enum_", "_cm_", "_twin_re_", "_lay_", "_law_", "_stub_", "_sre")
# The methods that the interface lists: each stands in the body of its class.
INTERFACE = {
    "fates.Fates": "__init__ may_take take __len__ twin numbers outers greatest __contains__ outer_of top_of family "
                   "first prepared fate end commit_of acting open_numbers",
    "states.State": "__init__ of apply can_stand rows pages word_in_force stubs fates __getitem__ entries_of made_at "
                    "ended_at is_dead standing has_own doubts cleaned is_plain twin __len__ __repr__",
    "readers.Reader": "__init__ view state get scan slots_on __contains__ __getitem__ __len__ close __enter__ __exit__",
    "houses.House": "__init__ log state page_count take reader open_views reading",
    "cleaners.Cleaner": "__init__ heard horizon local_horizon clean tidy sweep hear",
    "recoverers.Recoverer": "__init__ synced sync fall settle of",
    "transactions.Transaction": "__init__ view state put change strike lock sign get scan count inner commit abort "
                                "prepare attempt",
    "transactions.Inner": "__init__",
    "store.Store": "__init__ begin transactions of",
    "far.Far": "__init__ position least_view cancelled take follow",
    "logs.Log": "__init__ rows state_behind read __str__ __repr__ __len__ __getitem__ later __eq__ cut beginnings "
                "of_family",
    "held.Held": "__init__ rows fewest views stays apart paper spans who range_of later __contains__ __getitem__ "
                 "__len__ __eq__ __repr__",
    "desk.Desk": "__init__ say say_all names",
}
FUNCTIONS = {
    "names": "is_integer is_below is_key is_value is_number is_spot",
    "rows": "is_row numbers_in touched made",
    "rowtexts": "write_row write_rows read_row read_rows",
    "slots": "is_slot",
    "pages": "is_page empty_pages due_slot entries",
    "views": "seen get scan count page_slots",
    "horizons": "word_in_force horizon_of",
    "locking": "blockers verdict",
    "playing": "played",
    "floors": "floor_of ceiling_of spans heights",
    "ranges": "range_of ranges end_of",
    "holders": "word_at who open_spans",
    "bars": "bar",
    "fewest": "fewest_readers apart stays paper",
    "shortest": "main_spans least_length shortest",
    "explaining": "first_lack explains",
    "apartness": "are_apart is_apart shows_readers",
    "barcheck": "shows_bar shows_paper",
    "reasons": "floor_reason ceiling_reason",
    "reasoncheck": "shows_floor shows_ceiling",
    "shortcheck": "holds shows_shortest",
    "papertexts": "write_paper read_paper",
}
GENERATORS = (
    "views.scan", "readers.Reader.scan", "transactions.Transaction.scan", "logs.Log.beginnings", "logs.Log.of_family",
    "floors.spans", "ranges.ranges", "holders.open_spans", "shortest.main_spans", "held.Held.spans", "desk.Desk.say_all",
)
OWN_ERRORS = {"HoldError", "TurnError", "AbsentError", "SizeError", "InvalidText", "Unplayed"}


def read(name):
    with open(os.path.join(FOLDER, name), encoding="utf-8", newline="") as file:
        return file.read()


def file_names():
    return sorted(name for name in os.listdir(FOLDER) if name != "__pycache__")


TEXTS = {name[:-3]: read(name) for name in file_names() if name.endswith(".py")}
TREES = {name: ast.parse(text) for name, text in TEXTS.items()}
NODES = [(name, node) for name, tree in TREES.items() for node in ast.walk(tree)]
DEFS = [(name, node) for name, node in NODES if isinstance(node, ast.FunctionDef)]
CLASSES = [(name, node) for name, node in NODES if isinstance(node, ast.ClassDef)]
OWN_METHODS = {node.name for _, holder in CLASSES for node in holder.body if isinstance(node, ast.FunctionDef)}


def is_generator(function):
    return any(isinstance(node, (ast.Yield, ast.YieldFrom)) for node in ast.walk(function))


def calls_in(function):
    """The names of the functions and methods that a function calls."""
    for node in ast.walk(function):
        if isinstance(node, ast.Call):
            if isinstance(node.func, ast.Name):
                yield node.func.id
            elif isinstance(node.func, ast.Attribute):
                yield node.func.attr


def changes_in(function):
    """The places where a function changes what it did not create by a plain assignment."""
    made = {
        target.id for node in ast.walk(function) if isinstance(node, ast.Assign) for target in node.targets
        if isinstance(target, ast.Name) and isinstance(node.value, (ast.List, ast.Dict, ast.ListComp, ast.DictComp))
    }
    for node in ast.walk(function):
        if isinstance(node, (ast.Attribute, ast.Subscript)) and not isinstance(node.ctx, ast.Load):
            if not (isinstance(node, ast.Subscript) and isinstance(node.value, ast.Name) and node.value.id in made):
                yield node.lineno
        if isinstance(node, ast.Call) and isinstance(node.func, ast.Attribute) and node.func.attr in MODIFYING:
            if not (isinstance(node.func.value, ast.Name) and node.func.value.id in made):
                yield node.lineno
        if isinstance(node, (ast.AugAssign, ast.Nonlocal, ast.Yield, ast.YieldFrom, ast.Lambda)):
            yield node.lineno


class FilesTest(unittest.TestCase):
    def test_files(self):
        for name in file_names():
            self.assertRegex(name, r"^[a-z_][a-z0-9_]*\.py$")
        self.assertLessEqual(len(file_names()), 100)
        self.assertIn("__init__", TEXTS)

    def test_sizes_and_characters(self):
        for name, text in TEXTS.items():
            self.assertLessEqual(len(text.splitlines()), 399, name)
            self.assertIsNone(re.search(r"[^ -~\n]", text), name)
            for line in text.splitlines():
                self.assertLessEqual(len(line), 120, (name, line))
        for name, node in DEFS:
            self.assertLessEqual(node.end_lineno - node.lineno + 1, 40, (name, node.name))

    def test_imports(self):
        graph = {}
        for name, tree in TREES.items():
            graph[name] = set()
            for node in ast.walk(tree):
                self.assertNotIsInstance(node, ast.Import, name)
                if isinstance(node, ast.ImportFrom):
                    self.assertIn(node, tree.body)
                    self.assertEqual(node.level, 0)
                    self.assertRegex(node.module, r"^whoheld\.[a-z_]+$")
                    source = node.module[len("whoheld."):]
                    graph[name].add(source)
                    for alias in node.names:
                        self.assertIsNone(alias.asname)
                        self.assertIn(alias.name, defined_in(TREES[source]), (name, source))
        for name in graph:
            self.assertNotIn(name, reached(graph, name))

    def test_every_import_is_used(self):
        for name, tree in TREES.items():
            used = {node.id for node in ast.walk(tree) if isinstance(node, ast.Name)}
            for node in tree.body:
                if isinstance(node, ast.ImportFrom):
                    for alias in node.names:
                        self.assertIn(alias.name, used, (name, alias.name))

    def test_module_level(self):
        plain = (ast.Constant, ast.Tuple, ast.List, ast.Dict, ast.Load, ast.Name, ast.BinOp, ast.operator)
        for name, tree in TREES.items():
            for at, node in enumerate(tree.body):
                if isinstance(node, ast.Assign):
                    self.assertTrue(len(node.targets) == 1 and isinstance(node.targets[0], ast.Name), name)
                    for part in ast.walk(node.value):
                        self.assertIsInstance(part, plain, name)
                elif isinstance(node, ast.Expr):
                    self.assertEqual((at, type(node.value)), (0, ast.Constant), name)
                else:
                    self.assertIsInstance(node, (ast.ImportFrom, ast.FunctionDef, ast.ClassDef), name)
            names = list(defined_in(tree)) + [
                alias.name for node in tree.body if isinstance(node, ast.ImportFrom) for alias in node.names
            ]
            self.assertEqual(len(names), len(set(names)), name)


def defined_in(tree):
    return [node.name for node in tree.body if isinstance(node, (ast.FunctionDef, ast.ClassDef))] + [
        node.targets[0].id for node in tree.body if isinstance(node, ast.Assign)
    ]


def reached(graph, name):
    found, waiting = set(), list(graph[name])
    while waiting:
        other = waiting.pop()
        if other not in found:
            found.add(other)
            waiting += graph[other]
    return found


class NamesTest(unittest.TestCase):
    def test_names(self):
        for name, node in NODES:
            for word in names_of(node):
                self.assertRegex(word, r"^(_?[A-Za-z][A-Za-z0-9_]*|_|__[a-z]+__)$", name)
                if word.startswith("__"):
                    self.assertIn(word, DOUBLE, name)
                self.assertFalse(word.startswith(BARRED_BEGINNINGS), (name, word))
                self.assertNotIn(word, BARRED_NAMES, name)
                self.assertFalse(re.match(r"_(cold|tuplegetter|outside|record|written_out)\b", word), (name, word))

    def test_words(self):
        for name, text in TEXTS.items():
            self.assertIsNone(BARRED_WORDS.search(text), name)

    def test_builtins(self):
        for name, tree in TREES.items():
            own = set(names_bound_in(tree))
            for node in ast.walk(tree):
                if isinstance(node, ast.Name) and node.id in vars(builtins):
                    self.assertIn(node.id, BUILTINS, name)
            for word in own:
                self.assertFalse(word in vars(builtins) and word not in OWN_METHODS, (name, word))

    def test_locals_do_not_hide_imports_and_classes(self):
        for name, tree in TREES.items():
            outer = {alias.name for node in tree.body if isinstance(node, ast.ImportFrom) for alias in node.names}
            outer |= {node.name for node in tree.body if isinstance(node, ast.ClassDef)}
            for node in ast.walk(tree):
                if isinstance(node, ast.arg):
                    self.assertNotIn(node.arg, outer, name)
                if isinstance(node, ast.Name) and isinstance(node.ctx, ast.Store):
                    self.assertNotIn(node.id, outer, name)

    def test_methods_and_attributes(self):
        attributes = {
            node.attr for _, node in NODES if isinstance(node, ast.Attribute) and isinstance(node.ctx, ast.Store)
        }
        attributes |= {
            part.targets[0].id for _, holder in CLASSES for part in holder.body if isinstance(part, ast.Assign)
        }
        self.assertEqual(attributes & OWN_METHODS, set())
        for name, node in NODES:
            if isinstance(node, ast.Call) and isinstance(node.func, ast.Attribute):
                self.assertIn(node.func.attr, METHODS | OWN_METHODS, name)
            elif isinstance(node, ast.Attribute):
                self.assertIn(node.attr, attributes | OWN_METHODS | METHODS, name)


def names_of(node):
    if isinstance(node, ast.Name):
        yield node.id
    if isinstance(node, ast.arg):
        yield node.arg
    if isinstance(node, (ast.FunctionDef, ast.ClassDef)):
        yield node.name
    if isinstance(node, ast.Attribute):
        yield node.attr
    if isinstance(node, ast.keyword) and node.arg:
        yield node.arg


def names_bound_in(tree):
    for node in ast.walk(tree):
        if isinstance(node, ast.Name) and isinstance(node.ctx, ast.Store):
            yield node.id
        if isinstance(node, ast.arg):
            yield node.arg
        if isinstance(node, (ast.FunctionDef, ast.ClassDef)):
            yield node.name


class StatementsTest(unittest.TestCase):
    BARRED = (ast.GeneratorExp, ast.Global, ast.AsyncFunctionDef, ast.Await, ast.NamedExpr, ast.AnnAssign, ast.Div)

    def test_statements_and_expressions(self):
        for name, node in NODES:
            self.assertNotIsInstance(node, self.BARRED, name)
            if isinstance(node, ast.Constant):
                self.assertIsInstance(node.value, (int, str, bytes, type(None)), name)
                if isinstance(node.value, str):
                    self.assertNotIn("%", node.value, name)
            if isinstance(node, ast.Raise) and node.exc is not None:
                self.assertIsInstance(node.exc, ast.Call, name)
                self.assertTrue(node.cause is None or ast.unparse(node.cause) == "None", name)
            if isinstance(node, ast.Try):
                self.assertEqual([node.orelse, node.finalbody, len(node.handlers)], [[], [], 1], name)
            if isinstance(node, ast.ExceptHandler):
                caught = node.type.elts if isinstance(node.type, ast.Tuple) else [node.type]
                self.assertLessEqual({part.id for part in caught}, OWN_ERRORS, name)
                uses = [part for part in ast.walk(node) if isinstance(part, ast.Attribute)
                        and isinstance(part.value, ast.Name) and part.value.id == node.name]
                names = [part for part in ast.walk(node) if isinstance(part, ast.Name) and part.id == node.name]
                self.assertEqual(len(uses), len(names), name)
            if isinstance(node, ast.Compare) and isinstance(node.ops[0], (ast.Is, ast.IsNot)):
                self.assertIn(ast.unparse(node.comparators[0]), ("None", "True", "False"), name)

    def test_attributes_are_assigned_through_a_local_name(self):
        for name, node in NODES:
            if isinstance(node, ast.Attribute) and not isinstance(node.ctx, ast.Load):
                self.assertIsInstance(node.value, ast.Name, (name, node.lineno))

    def test_stars_stand_before_plain_names(self):
        for name, node in NODES:
            if isinstance(node, ast.Call):
                for part in node.args:
                    if isinstance(part, ast.Starred):
                        self.assertIsInstance(part.value, ast.Name, (name, node.lineno))

    def test_sets_are_used_where_they_are_written(self):
        for name, node in NODES:
            for child in ast.iter_child_nodes(node):
                if isinstance(child, (ast.Set, ast.SetComp)) or (
                    isinstance(child, ast.Call) and isinstance(child.func, ast.Name) and child.func.id == "set"
                ):
                    self.assertTrue(isinstance(node, ast.Call) and node.func.id in ("sorted", "len"), name)

    def test_functions(self):
        for name, node in DEFS:
            for part in node.args.defaults + node.args.kw_defaults:
                self.assertTrue(part is None or isinstance(part, ast.Constant) or ast.unparse(part) == "()", node.name)
            for decorator in node.decorator_list:
                self.assertIn(ast.unparse(decorator), ("property", "classmethod", "staticmethod"), name)
            for inner in ast.walk(node):
                self.assertTrue(inner is node or not isinstance(inner, ast.FunctionDef), (name, node.name))

    def test_generators(self):
        generators = {node.name for _, node in DEFS if is_generator(node)}
        for name, node in DEFS:
            if node.name in generators:
                self.assertTrue(is_generator(node), (name, node.name))
        for name, node in NODES:
            if isinstance(node, (ast.For, ast.comprehension)):
                iterated = [node.iter]
            elif isinstance(node, ast.Call) and isinstance(node.func, ast.Name) and node.func.id in ("list", "tuple"):
                iterated = node.args
            else:
                iterated = []
            for child in ast.iter_child_nodes(node):
                if isinstance(child, ast.Call) and ast.unparse(child.func).split(".")[-1] in generators:
                    self.assertIn(child, iterated, (name, ast.unparse(child)))

    def test_reversed_goes_over_lists(self):
        for name, node in NODES:
            if isinstance(node, ast.Call) and ast.unparse(node.func) == "reversed":
                self.assertRegex(ast.unparse(node.args[0]), r"^(list|tuple|sorted|range)\(", name)

    def test_checks_drive_no_store(self):
        for name in ("explaining", "apartness", "barcheck", "reasoncheck", "shortcheck"):
            graph = {other: {node.module[len("whoheld."):] for node in tree.body if isinstance(node, ast.ImportFrom)}
                     for other, tree in TREES.items()}
            self.assertFalse({"store", "houses", "cleaners", "transactions", "playing", "horizons"} & reached(graph, name))


class ClassesTest(unittest.TestCase):
    def test_bodies(self):
        for name, node in CLASSES:
            self.assertEqual((node.decorator_list, node.keywords), ([], []), name)
            for at, part in enumerate(node.body):
                if isinstance(part, ast.Assign):
                    self.assertRegex(part.targets[0].id, "^[A-Z]+$", (name, node.name))
                    self.assertIsInstance(part.value, ast.Constant, (name, node.name))
                elif not isinstance(part, ast.FunctionDef):
                    self.assertTrue(at == 0 and isinstance(part, ast.Expr), (name, node.name))
            methods = [part.name for part in node.body if isinstance(part, ast.FunctionDef)]
            self.assertEqual(len(methods), len(set(methods)), node.name)
            if "__getitem__" in methods:
                self.assertIn("__iter__", methods)
            stored = {
                part.attr for part in ast.walk(node)
                if isinstance(part, ast.Attribute) and isinstance(part.ctx, ast.Store)
            }
            self.assertFalse(stored & set(methods), node.name)

    def test_lengths(self):
        for name, node in DEFS:
            if node.name == "__len__":
                self.assertEqual(len(node.body), 1, name)
                self.assertRegex(ast.unparse(node.body[0]), r"^return len\(")

    def test_properties_and_operators_change_nothing(self):
        by_name = {}
        for name, node in DEFS:
            by_name.setdefault(node.name, []).append((name, node))
        starts = [
            (name, node) for name, node in DEFS
            if (node.name in DOUBLE and node.name not in ("__init__", "__enter__", "__exit__"))
            or any(ast.unparse(decorator) == "property" for decorator in node.decorator_list)
        ]
        seen, waiting = set(), list(starts)
        while waiting:
            name, node = waiting.pop()
            if node in seen:
                continue
            seen.add(node)
            self.assertEqual(list(changes_in(node)), [], (name, node.name))
            for word in calls_in(node):
                # Making an object would run its `__init__`, which changes it.
                self.assertNotIn(word, [holder.name for file, holder in CLASSES if file != "errors"], node.name)
                waiting += by_name.get(word, [])

    def test_properties_have_names_of_their_own(self):
        properties = {node.name for _, node in DEFS if [part for part in node.decorator_list
                                                        if ast.unparse(part) == "property"]}
        for _, holder in CLASSES:
            for node in holder.body:
                if isinstance(node, ast.FunctionDef) and not node.decorator_list:
                    self.assertNotIn(node.name, properties | METHODS - {"get", "count"})

    def test_super_stands_in_methods_only(self):
        for name, node in DEFS:
            arguments = node.args.posonlyargs + node.args.args
            is_plain = arguments and arguments[0].arg == "self" and not node.decorator_list
            if "super" in calls_in(node):
                self.assertTrue(is_plain, (name, node.name))

    def test_no_method_is_read_off_a_class(self):
        classes = {holder.name for _, holder in CLASSES}
        for name, node in NODES:
            if isinstance(node, ast.Attribute) and isinstance(node.value, ast.Name) and node.value.id in classes:
                self.assertIn(node.attr, ("of", "read", "MOST"), name)


class InterfaceTest(unittest.TestCase):
    def test_methods_stand_in_their_class(self):
        for place, methods in INTERFACE.items():
            file, name = place.split(".")
            holder = [node for node in TREES[file].body if isinstance(node, ast.ClassDef) and node.name == name][0]
            found = {node.name for node in holder.body if isinstance(node, ast.FunctionDef)}
            self.assertEqual(set(methods.split()) - found, set(), place)

    def test_functions_stand_in_their_file(self):
        for file, names in FUNCTIONS.items():
            found = {node.name for node in TREES[file].body if isinstance(node, ast.FunctionDef)}
            self.assertEqual(set(names.split()) - found, set(), file)

    def test_generators_of_the_interface(self):
        for place in GENERATORS:
            file, *names = place.split(".")
            found = __import__("whoheld." + file, fromlist=names)
            for name in names:
                found = getattr(found, name)
            self.assertTrue(inspect.isgeneratorfunction(found), place)
