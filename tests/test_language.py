"""The files of the package against the rules of LANGUAGE.md that a test can look at."""

import ast
import builtins
import re
import unittest
from pathlib import Path

PACKAGE = Path(__file__).resolve().parent.parent / "frontlines"
NAME = "frontlines"
LIBRARY = {
    "heapq": {"heappush", "heappop", "heapify", "heapreplace", "heappushpop"},
    "math": {"gcd", "lcm", "isqrt", "comb", "perm", "factorial"},
    "itertools": {"product", "combinations", "permutations"},
}
BUILTINS = set(
    "len range enumerate zip min max sum abs sorted reversed int str bool bytes list tuple dict set frozenset "
    "isinstance ord repr any all divmod Exception ValueError TypeError KeyError IndexError LookupError "
    "ZeroDivisionError ArithmeticError OverflowError RuntimeError NotImplementedError AttributeError StopIteration "
    "NotImplemented iter next map super property classmethod staticmethod".split()
)
METHODS = set(
    "append clear copy count endswith extend find get index insert isalnum isalpha isdigit islower isspace isupper "
    "items join keys ljust lower lstrip partition pop remove replace reverse rfind rjust rpartition rsplit rstrip "
    "setdefault split splitlines startswith strip update upper values zfill bit_length add discard removeprefix "
    "removesuffix".split()
)
HEAPS = {"heappush", "heappop", "heapify", "heapreplace", "heappushpop"}
CHANGING = {"append", "clear", "extend", "insert", "pop", "remove", "reverse", "setdefault", "update", "add", "discard"}
OPERATORS = set(
    "__lt__ __le__ __gt__ __ge__ __ne__ __add__ __sub__ __mul__ __floordiv__ __mod__ __pow__ __and__ __or__ __xor__ "
    "__lshift__ __rshift__ __neg__ __pos__ __invert__ __abs__ __bool__ __contains__ __getitem__".split()
)
SHOWN = {"__eq__", "__repr__", "__str__", "__len__"}
DUNDERS = OPERATORS | SHOWN | {"__init__", "__enter__", "__exit__", "__call__", "__iter__", "__setitem__", "__iadd__"}
BARRED = set(
    "register mro elements open input law version_info with_traceback add_note attrgetter breakpoint builtins compile "
    "copyright credits delattr dir eval exec exit gc getattr globals hasattr help id importlib license locals "
    "methodcaller os quit setattr type vars sys format format_map".split()
)
WORDS = set(
    "type typing typing_extensions enum Enum IntEnum StrEnum Flag IntFlag Generic Protocol ABC ABCMeta namedtuple "
    "NamedTuple TypedDict TYPE_CHECKING abstractmethod".split()
)
DEFINED = {
    "errors": "LineError InvalidSigns InvalidRows InvalidEnds InvalidLine InvalidLines InvalidCount InvalidRules "
    "InvalidRelays InvalidChain InvalidMark InvalidMarks InvalidSight InvalidLook InvalidBody InvalidTail InvalidCare "
    "InvalidRole InvalidLevel InvalidTree InvalidMessage InvalidWidth InvalidText InvalidClaim InvalidCommand "
    "StateError OtherSigns OtherReaders Untrue NothingToUndo CommandFailed LimitError TooMany",
    "machines": "Machine",
    "relays": "Relay",
    "chains": "before_one after_one before after steps chain_to turned walked is_chain is_closed is_barrier",
    "writers": "Writer safe_looks",
    "readers": "Reader",
    "schemes": "Scheme",
    "trees": "is_tree written own_telling telling course tree_read goes_wrong wrong_way is_wrong_way",
    "breaks": "pieces coming first_coming are_numbers_right first_longer is_coming_way",
    "alike": "can_be_held line_views is_unlike_at are_alike unlike_message",
    "texts": "text_of read_scheme",
    "claims": "is_paper is_true paper_for",
    "drafts": "Draft",
    "desk": "Desk",
}
LISTED_METHODS = {
    "Machine": "every nothing of_lines beginning having tailed longer signs states rows ends __contains__ __or__ "
    "__and__ __sub__ __neg__ is_within unlike_line first_line is_finite how_many first_lines __eq__ __repr__ __init__",
    "Relay": "signs rules __call__ table __mul__ power is_alike parting_line joined_lines undoing undoes __eq__ "
    "__repr__ __init__",
    "Writer": "signs sight look relays seen barred is_safe first_unsafe safe_sets unsafe_sets lets choice sorts "
    "least_full_body count_let __eq__ __repr__ __init__",
    "Reader": "signs tail depth sight order further finish marks cares __getitem__ __iter__ roles line_of sees asked "
    "taken role_at with_care __eq__ __repr__ __init__",
    "Scheme": "reader look signs relays barred lets is_kept is_clear is_sound faults first_fault sound_sets __eq__ "
    "__repr__ __init__",
    "Draft": "scheme __getitem__ __setitem__ __iter__ __len__ __iadd__ drop put_tail put_care take_away tried_by __init__",
    "Desk": "scheme do do_all log __init__",
}
FUNCTION = (ast.FunctionDef, ast.AsyncFunctionDef)
# Running examples puts a "_" among the builtins.
TAKEN = set(dir(builtins)) - {"_"}


def sources():
    return {path: path.read_text(encoding="utf-8") for path in sorted(PACKAGE.rglob("*.py"))}


def trees():
    return {path.stem: ast.parse(text) for path, text in sources().items()}


def functions(tree):
    return [node for node in ast.walk(tree) if isinstance(node, FUNCTION)]


def parameters(function):
    given = function.args
    return [each.arg for each in given.posonlyargs + given.args + given.kwonlyargs] + [
        each.arg for each in (given.vararg, given.kwarg) if each
    ]


def local_names(function):
    stored = [node.id for node in ast.walk(function) if isinstance(node, ast.Name) and isinstance(node.ctx, ast.Store)]
    caught = [node.name for node in ast.walk(function) if isinstance(node, ast.ExceptHandler) and node.name]
    return set(stored) | set(parameters(function)) | set(caught)


def is_plain_at_star(node, properties):
    """Whether the node is a name, an attribute (no property) off a name, a literal, or a row of such."""
    if isinstance(node, ast.Attribute):
        return isinstance(node.value, ast.Name) and node.attr not in properties
    if isinstance(node, (ast.List, ast.Tuple)):
        return all(is_plain_at_star(each, properties) for each in node.elts)
    if isinstance(node, ast.Dict):
        return all(is_plain_at_star(each, properties) for each in [*node.keys, *node.values])
    if isinstance(node, ast.UnaryOp):
        return isinstance(node.op, ast.USub) and isinstance(node.operand, ast.Constant)
    return isinstance(node, (ast.Name, ast.Constant))


def starred_of(rows):
    return [each.value for each in rows if isinstance(each, ast.Starred)]


def star_faults(node, properties):
    """What stands behind the stars of a call, or beside its `**`, against rule L7; the same is held for literals."""
    if isinstance(node, (ast.List, ast.Tuple)):
        return [each for each in starred_of(node.elts) if not is_plain_at_star(each, properties)]
    if isinstance(node, ast.Dict):
        doubles = [each for key, each in zip(node.keys, node.values) if key is None]
        return [each for each in doubles if not is_plain_at_star(each, properties)]
    if not isinstance(node, ast.Call):
        return []
    stars = starred_of(node.args)
    doubles = [each.value for each in node.keywords if each.arg is None]
    found = [each for each in stars if not is_plain_at_star(each, properties)]
    ends = [(each.end_lineno, each.end_col_offset) for each in node.keywords if each.arg is not None]
    found.extend(each for each in stars if ends and min(ends) < (each.lineno, each.col_offset))
    if doubles:
        beside = [each for each in node.args if not isinstance(each, ast.Starred)]
        found.extend(each for each in beside + doubles if not is_plain_at_star(each, properties))
        found.extend(each for each in doubles if not isinstance(each, (ast.Name, ast.Attribute)))
        found.extend(node.keywords[1:])
    return found


def root(node):
    while isinstance(node, (ast.Attribute, ast.Subscript)):
        node = node.value
    return node


class Files(unittest.TestCase):
    def test_folder(self):
        self.assertTrue((PACKAGE / "__init__.py").is_file())
        for path in PACKAGE.rglob("*"):
            if "__pycache__" not in path.parts:
                self.assertRegex(path.name, r"^[a-z0-9_]+\.py$")
                self.assertNotIn(path.stem, TAKEN)
                self.assertNotRegex(path.stem, r"^(law_|test|site|conftest|usercustomize)")
        self.assertLessEqual(len(sources()), 100)

    def test_characters_and_sizes(self):
        for path, text in sources().items():
            self.assertRegex(text, r"\A[ -~\n]*\Z", path)
            self.assertLessEqual(len(text.splitlines()), 399, path)
            self.assertLessEqual(max(len(line) for line in text.splitlines()), 120, path)
            for word in ("_wall", "_WallAttr", "dataclass", "overload", "contextmanager", "metaclass=", "(type)", "Meta"):
                self.assertNotIn(word, text, path)

    def test_functions_are_short(self):
        for name, tree in trees().items():
            for function in functions(tree):
                self.assertLessEqual(function.end_lineno - function.lineno + 1, 40, (name, function.name))

    def test_both_pythons_compile_without_a_warning(self):
        for path, text in sources().items():
            compile(text, str(path), "exec", dont_inherit=True)


class Imports(unittest.TestCase):
    def test_forms(self):
        found = trees()
        for name, tree in found.items():
            ahead = True
            for node in tree.body:
                is_doc = isinstance(node, ast.Expr) and isinstance(node.value, ast.Constant)
                if not isinstance(node, ast.ImportFrom):
                    ahead = ahead and is_doc
                    continue
                self.assertTrue(ahead, name)
                self.assertEqual(node.level, 0)
                self.assertTrue(all(each.asname is None and each.name != "*" for each in node.names))
                if node.module in LIBRARY:
                    self.assertLessEqual({each.name for each in node.names}, LIBRARY[node.module])
                    continue
                package, _, file = node.module.partition(".")
                self.assertEqual(package, NAME)
                defined = {each.name for each in found[file].body if isinstance(each, (*FUNCTION, ast.ClassDef))}
                for each in found[file].body:
                    if isinstance(each, ast.Assign):
                        defined |= {target.id for target in each.targets}
                self.assertLessEqual({each.name for each in node.names}, defined, (name, node.module))
            inner = [node for node in ast.walk(tree) if isinstance(node, (ast.Import, ast.ImportFrom))]
            self.assertEqual(len(inner), len([node for node in tree.body if isinstance(node, ast.ImportFrom)]))

    def test_no_circles(self):
        after = {
            name: {node.module.partition(".")[2] for node in tree.body if isinstance(node, ast.ImportFrom)} - {""}
            for name, tree in trees().items()
        }
        while after:
            free = [name for name, needed in after.items() if not needed & set(after)]
            self.assertTrue(free, after)
            for name in free:
                del after[name]

    def test_imported_names_are_used(self):
        for name, tree in trees().items():
            used = {node.id for node in ast.walk(tree) if isinstance(node, ast.Name)}
            for node in tree.body:
                if isinstance(node, ast.ImportFrom):
                    self.assertLessEqual({each.name for each in node.names}, used, name)


class Interface(unittest.TestCase):
    def test_defined_in_their_files(self):
        found = trees()
        for file, names in DEFINED.items():
            defined = {node.name for node in found[file].body if isinstance(node, (*FUNCTION, ast.ClassDef))}
            self.assertLessEqual(set(names.split()), defined)

    def test_methods_stand_in_their_classes(self):
        classes = {n.name: n for tree in trees().values() for n in ast.walk(tree) if isinstance(n, ast.ClassDef)}
        for name, methods in LISTED_METHODS.items():
            defined = {node.name for node in classes[name].body if isinstance(node, FUNCTION)}
            self.assertLessEqual(set(methods.split()), defined)


class Code(unittest.TestCase):
    def is_table(self, value):
        """Whether the value is a dict of functions."""
        return isinstance(value, ast.Dict) and all(isinstance(each, ast.Name) for each in value.values)

    def test_tables_are_called_by_a_name(self):
        for name, tree in trees().items():
            for node in ast.walk(tree):
                if isinstance(node, ast.Call):
                    self.assertIsInstance(node.func, (ast.Name, ast.Attribute), (name, node.lineno))

    def test_stars(self):
        found = trees()
        made = {m.name for tree in found.values() for m in functions(tree) if m.decorator_list}
        for name, tree in found.items():
            for node in ast.walk(tree):
                self.assertEqual(star_faults(node, made), [], (name, getattr(node, "lineno", 0)))

    def test_stars_that_may_not_stand(self):
        for text in (
            "f(box.size, **more)", "f(*box.size)", "f(**box.size)", "f(box.part.row, **more)", "f(*xs[0])", "f(*g())",
            "f(xs[0], **more)", "f(g(), **more)", "f(k + 1, **more)", "f(*(xs + ys))", "f(**more[0])", "f(**g())",
            "f(**{'a': 1})", "f(**more, **less)", "f(a=1, **more)", "f(a=1, *xs)", "f([box.size], **more)",
            "f(*[xs[0]])", "f({'a': g()}, **more)", "[1, *xs[0]]", "(*g(), 1)", "[*(xs + ys)]", "{**more[0]}",
        ):
            faults = [fault for node in ast.walk(ast.parse(text)) for fault in star_faults(node, {"size"})]
            self.assertNotEqual(faults, [], text)
        for text in (
            "f(*xs)", "f(k, *xs)", "f(*xs, n, sep=n)", "f(**more)", "f(box.many, **box.more)", "f(1, 'a', **more)",
            "f(-1, [k, (1, box.many)], {'a': k}, **more)", "f(*(k, 1))", "f(box.size, g(), xs[0])", "[1, *xs]",
            "(*xs, *box.rows)", "{**more, 'a': g()}", "[*xs, g()]",
        ):
            faults = [fault for node in ast.walk(ast.parse(text)) for fault in star_faults(node, {"size"})]
            self.assertEqual(faults, [], text)

    def test_module_level(self):
        allowed = (ast.ImportFrom, ast.FunctionDef, ast.ClassDef, ast.Assign, ast.Expr)
        for name, tree in trees().items():
            bound, defined = [], set()
            for node in tree.body:
                self.assertIsInstance(node, allowed, name)
                if isinstance(node, ast.Expr):
                    self.assertIs(node, tree.body[0], name)
                if isinstance(node, ast.Assign):
                    self.assertEqual(len(node.targets), 1)
                    self.assertIsInstance(node.targets[0], ast.Name)
                    if self.is_table(node.value):
                        self.assertLessEqual({each.id for each in node.value.values}, defined, name)
                    else:
                        ast.literal_eval(node.value)
                    bound.append(node.targets[0].id)
                if isinstance(node, (ast.FunctionDef, ast.ClassDef)):
                    bound.append(node.name)
                    defined |= {node.name} if isinstance(node, ast.FunctionDef) else set()
                if isinstance(node, ast.ImportFrom):
                    bound.extend(each.name for each in node.names)
            self.assertEqual(len(bound), len(set(bound)), name)

    def test_classes(self):
        for name, tree in trees().items():
            for node in ast.walk(tree):
                if isinstance(node, ast.ClassDef):
                    self.assertIn(node, tree.body)
                    self.assertEqual((node.decorator_list, node.keywords), ([], []))
                    for inner in node.body:
                        self.assertIsInstance(inner, (ast.FunctionDef, ast.Assign, ast.Expr), node.name)

    def test_decorators_and_double_underscores(self):
        for name, tree in trees().items():
            methods = {m for c in tree.body if isinstance(c, ast.ClassDef) for m in c.body if isinstance(m, FUNCTION)}
            for function in functions(tree):
                words = [ast.unparse(each) for each in function.decorator_list]
                if function not in methods:
                    self.assertEqual(words, [])
                for word in words:
                    self.assertRegex(word, r"^(property|classmethod|staticmethod|\w+\.setter)$")
                if function.name.startswith("__"):
                    self.assertIn(function, methods)
                    self.assertIn(function.name, DUNDERS)
                self.assertIsNone(function.returns)

    def test_barred_statements_and_expressions(self):
        barred = (
            ast.Global, ast.AsyncFunctionDef, ast.AsyncFor, ast.AsyncWith, ast.Await, ast.Div, ast.MatMult,
            ast.Set, ast.SetComp, ast.GeneratorExp, ast.AnnAssign, ast.AugAssign, ast.Delete, ast.Import, ast.Lambda,
        )
        for name, tree in trees().items():
            for node in ast.walk(tree):
                if isinstance(node, ast.Lambda) and len(node.args.args) == 1:
                    continue
                self.assertNotIsInstance(node, barred, (name, getattr(node, "lineno", 0)))
                if isinstance(node, ast.Pow):
                    self.fail(name)

    def test_only_own_errors_are_caught(self):
        found = trees()
        own = {node.name for node in found["errors"].body if isinstance(node, ast.ClassDef)}
        for name, tree in found.items():
            for node in ast.walk(tree):
                if isinstance(node, ast.Try):
                    for handler in node.handlers:
                        named = handler.type.elts if isinstance(handler.type, ast.Tuple) else [handler.type]
                        self.assertLessEqual({each.id for each in named}, own, name)

    def test_what_is_done_finally_is_simple(self):
        found = [node for tree in trees().values() for node in ast.walk(tree) if isinstance(node, ast.Try)]
        self.assertEqual(sum(len(node.finalbody) for node in found), 1)
        for node in found:
            for row in node.finalbody:
                self.assertIsInstance(row, ast.Assign)
                for part in [*row.targets, row.value]:
                    self.assertIsInstance(part, (ast.Name, ast.Attribute))

    def test_errors_are_made_where_they_are_raised(self):
        for name, tree in trees().items():
            for node in ast.walk(tree):
                if isinstance(node, ast.Raise):
                    self.assertIsInstance(node.exc, ast.Call, (name, node.lineno))
                    self.assertIsInstance(node.exc.func, ast.Name, (name, node.lineno))
                    self.assertIn("None" if node.cause is None else ast.unparse(node.cause), ("None", "error"), name)

    def test_generators(self):
        found = trees()
        made = set()
        for tree in found.values():
            for function in functions(tree):
                if any(isinstance(node, (ast.Yield, ast.YieldFrom)) for node in ast.walk(function)):
                    self.assertIn(function, tree.body)
                    made.add(function.name)
                    for node in ast.walk(function):
                        if isinstance(node, ast.Return):
                            self.assertIsNone(node.value)
        self.assertEqual(made, {"walked"})
        for name, tree in found.items():
            for node in ast.walk(tree):
                self.assertFalse(isinstance(node, ast.Name) and node.id in made, name)
            if name != "chains":
                self.assertFalse(made & {function.name for function in functions(tree)})

    def test_names_of_the_library_are_only_called(self):
        names = {name for given in LIBRARY.values() for name in given}
        for name, tree in trees().items():
            called = [node.func for node in ast.walk(tree) if isinstance(node, ast.Call)]
            for node in ast.walk(tree):
                if isinstance(node, ast.Name) and node.id in names:
                    self.assertIn(node, called, (name, node.lineno))
                if isinstance(node, ast.Call) and isinstance(node.func, ast.Name) and node.func.id in names:
                    self.assertEqual(node.keywords, [], (name, node.lineno))

    def test_names_of_properties(self):
        classes = [node for tree in trees().values() for node in tree.body if isinstance(node, ast.ClassDef)]
        methods, plain = set(), set()
        for each in classes:
            for method in each.body:
                if isinstance(method, ast.FunctionDef):
                    words = [ast.unparse(word) for word in method.decorator_list]
                    (methods if words == ["property"] else plain).add(method.name)
        stored = {
            node.attr for tree in trees().values() for node in ast.walk(tree)
            if isinstance(node, ast.Attribute) and isinstance(node.ctx, ast.Store)
        }
        self.assertEqual(methods & plain, set())
        self.assertEqual((methods | plain) & stored, set())
        self.assertEqual(methods & (METHODS | BUILTINS), set())

    def test_constants(self):
        for name, tree in trees().items():
            for node in ast.walk(tree):
                if isinstance(node, ast.Constant):
                    self.assertIn(type(node.value), (int, str, bool, type(None)), name)
                    if isinstance(node.value, str):
                        self.assertNotIn("%", node.value)
                        self.assertFalse(re.search(r"\._+$|^__.*__$", node.value), node.value)
        for path, text in sources().items():
            self.assertNotRegex(text, r"\\[^n\\\"']", path)

    def test_is(self):
        for name, tree in trees().items():
            for node in ast.walk(tree):
                if isinstance(node, ast.Compare) and isinstance(node.ops[0], (ast.Is, ast.IsNot)):
                    self.assertIn(ast.unparse(node.comparators[0]), ("None", "True", "False"))

    def test_names(self):
        for name, tree in trees().items():
            outer = {node.name for node in tree.body if isinstance(node, ast.ClassDef)}
            outer |= {each.name for node in tree.body if isinstance(node, ast.ImportFrom) for each in node.names}
            defined = outer | {node.name for node in tree.body if isinstance(node, FUNCTION)}
            defined |= {t.id for node in tree.body if isinstance(node, ast.Assign) for t in node.targets}
            self.assertFalse(defined & (TAKEN | BARRED), name)
            for function in functions(tree):
                mine = local_names(function)
                self.assertFalse(mine & (outer | TAKEN | BARRED), (name, function.name))
                self.assertNotIn(function.name, BUILTINS | BARRED)
                for node in ast.walk(function):
                    if isinstance(node, ast.Name) and isinstance(node.ctx, ast.Load):
                        lambdas = {a for n in ast.walk(function) if isinstance(n, ast.Lambda) for a in parameters(n)}
                        known = mine | lambdas | defined | BUILTINS
                        self.assertIn(node.id, known, (name, function.name))
                        self.assertNotEqual(node.id, "_", (name, function.name))

    def test_words(self):
        for name, tree in trees().items():
            for node in ast.walk(tree):
                for field in ("id", "attr", "arg", "name"):
                    word = getattr(node, field, None)
                    if isinstance(word, str):
                        self.assertNotIn(word, WORDS | BARRED, name)
                        self.assertRegex(word, r"^(__[a-z]+__|_?[A-Za-z][A-Za-z0-9_]*|_)$")

    def test_methods_of_builtin_values(self):
        found = trees()
        own = {function.name for tree in found.values() for function in functions(tree)}
        for name, tree in found.items():
            for node in ast.walk(tree):
                if isinstance(node, ast.Call) and isinstance(node.func, ast.Attribute):
                    self.assertIn(node.func.attr, METHODS | own, (name, node.lineno))
                    if node.func.attr in METHODS:
                        self.assertEqual(node.keywords, [])

    def test_views_are_iterated_at_once(self):
        lazy = {"zip", "enumerate", "reversed", "range"}
        for name, tree in trees().items():
            for node in ast.walk(tree):
                if isinstance(node, (ast.Assign, ast.Return)) and isinstance(node.value, ast.Call):
                    called = node.value.func
                    word = called.id if isinstance(called, ast.Name) else getattr(called, "attr", "")
                    self.assertNotIn(word, lazy | {"items", "keys", "values", "map", "iter"}, (name, node.lineno))


class Purity(unittest.TestCase):
    """What operators, properties and what shows and compares objects run changes nothing but lists of its own."""

    def reached(self):
        by_name, classes, todo = {}, {}, []
        for name, tree in trees().items():
            for node in tree.body:
                if isinstance(node, ast.FunctionDef):
                    by_name.setdefault(node.name, []).append(node)
                if isinstance(node, ast.ClassDef):
                    for method in node.body:
                        if isinstance(method, ast.FunctionDef):
                            by_name.setdefault(method.name, []).append(method)
                            words = [ast.unparse(each) for each in method.decorator_list]
                            if method.name in OPERATORS | SHOWN or "property" in words:
                                todo.append(method)
                            if method.name == "__init__":
                                classes[node.name] = method
        found = []
        while todo:
            function = todo.pop()
            if function in found:
                continue
            found.append(function)
            for node in ast.walk(function):
                if isinstance(node, ast.Call):
                    word = node.func.id if isinstance(node.func, ast.Name) else node.func.attr
                    todo.extend(by_name.get(word, []))
                    todo.extend([classes[word]] if word in classes else [])
                    self.assertNotIn(word, parameters(function))
                if isinstance(node, ast.keyword) and node.arg == "key" and isinstance(node.value, ast.Name):
                    todo.extend(by_name[node.value.id])
        return found

    def own_lists(self, function):
        """The names that are assigned nothing but lists and dicts that are created there."""
        values = {}
        for node in ast.walk(function):
            if isinstance(node, ast.Assign):
                for target in node.targets:
                    for name in ast.walk(target):
                        if isinstance(name, ast.Name) and isinstance(name.ctx, ast.Store):
                            values.setdefault(name.id, []).append(node.value if target is name else None)
            if isinstance(node, (ast.For, ast.comprehension)):
                for name in ast.walk(node.target):
                    if isinstance(name, ast.Name):
                        values.setdefault(name.id, []).append(None)

        def is_new(value):
            if isinstance(value, ast.Call) and isinstance(value.func, ast.Name):
                return value.func.id in ("list", "dict", "sorted")
            return isinstance(value, (ast.List, ast.Dict, ast.ListComp))

        return {name for name, given in values.items() if all(is_new(value) for value in given)}

    def test_changes(self):
        found = self.reached()
        self.assertGreater(len(found), 20)
        for function in found:
            own = self.own_lists(function) - set(parameters(function))
            for node in ast.walk(function):
                self.assertNotIsInstance(node, (ast.AugAssign, ast.Delete, ast.Nonlocal), function.name)
                if isinstance(node, ast.Call) and isinstance(node.func, ast.Attribute):
                    if node.func.attr in CHANGING | {"sort"}:
                        self.assertIsInstance(node.func.value, ast.Name, function.name)
                        self.assertIn(node.func.value.id, own, function.name)
                if isinstance(node, ast.Call) and isinstance(node.func, ast.Name) and node.func.id in HEAPS:
                    self.assertIn(root(node.args[0]).id, own, function.name)
                if isinstance(node, ast.Subscript) and not isinstance(node.ctx, ast.Load):
                    self.assertIsInstance(node.value, ast.Name, function.name)
                    self.assertIn(node.value.id, own, function.name)
                if isinstance(node, ast.Attribute) and not isinstance(node.ctx, ast.Load):
                    self.assertEqual((function.name, root(node).id), ("__init__", "self"))

    def test_loops_do_not_change_what_they_go_over(self):
        for name, tree in trees().items():
            for loop in [node for node in ast.walk(tree) if isinstance(node, ast.For)]:
                over = {node.id for node in ast.walk(loop.iter) if isinstance(node, ast.Name)}
                for node in [inner for row in loop.body for inner in ast.walk(row)]:
                    changed = None
                    if isinstance(node, ast.Call) and isinstance(node.func, ast.Attribute):
                        changed = root(node.func) if node.func.attr in CHANGING else None
                    if isinstance(node, ast.Call) and isinstance(node.func, ast.Name) and node.func.id in HEAPS:
                        changed = root(node.args[0])
                    if isinstance(node, ast.Subscript) and not isinstance(node.ctx, ast.Load):
                        changed = root(node)
                    if isinstance(changed, ast.Name):
                        self.assertNotIn(changed.id, over, (name, loop.lineno))
