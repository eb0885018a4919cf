"""The rules of the language that can be checked by reading the files of the package."""

import ast
import builtins
import pathlib
import re
import unittest

PACKAGE = pathlib.Path(__file__).resolve().parent.parent / "unbrokenruns"
OUTSIDE = {"heapq": "heappush heappop heapify heapreplace heappushpop", "math": "gcd lcm isqrt comb perm factorial",
           "itertools": "product combinations permutations chain accumulate pairwise islice zip_longest",
           "collections": "defaultdict"}
BUILTINS = set("""len range enumerate zip min max sum abs sorted reversed int str bool bytes list tuple dict set
    frozenset isinstance ord repr any all divmod pow getattr hasattr setattr iter next map super property staticmethod
    classmethod object Exception ValueError TypeError KeyError IndexError LookupError ZeroDivisionError
    ArithmeticError OverflowError RuntimeError NotImplementedError AttributeError StopIteration
    NotImplemented""".split())
DOUBLE = set("""__init__ __eq__ __repr__ __str__ __len__ __enter__ __exit__ __call__ __iter__ __lt__ __le__ __gt__
    __ge__ __ne__ __add__ __sub__ __mul__ __and__ __or__ __xor__ __neg__ __invert__ __bool__ __contains__
    __getitem__ __setitem__""".split())
WORDS = """type typing typing_extensions enum Enum IntEnum StrEnum Flag IntFlag Generic Protocol ABC ABCMeta namedtuple
    NamedTuple TypedDict TYPE_CHECKING abstractmethod register mro elements open input law version_info with_traceback
    add_note _wall _WallAttr eval exec compile globals locals vars id dir delattr""".split()
METHODS = set("""append clear copy count endswith extend find get index insert isalnum isalpha isdigit islower isspace
    isupper items join keys ljust lower lstrip partition pop remove replace reverse rfind rjust rpartition rsplit rstrip
    setdefault split splitlines startswith strip update upper values zfill bit_length add discard sort title capitalize
    swapcase casefold center expandtabs removeprefix removesuffix rindex isascii isdecimal isnumeric istitle
    isidentifier isprintable format""".split())
CHANGING = set("append extend insert pop remove clear update reverse setdefault sort add discard".split())
HEAPS = set("heappush heappop heapify heapreplace heappushpop".split())
BARRED = (ast.GeneratorExp, ast.AsyncFunctionDef, ast.Global, ast.AnnAssign, ast.Div, ast.Await, ast.Import,
          ast.MatMult, ast.TypeIgnore)


def files():
    return sorted(PACKAGE.glob("*.py"))


def trees():
    return [(path.name, ast.parse(path.read_text(encoding="utf-8"))) for path in files()]


def nodes(kind):
    return [(f"{name}:{node.lineno}", node) for name, tree in trees() for node in ast.walk(tree)
            if isinstance(node, kind)]


def bound_names():
    """All names that are bound anywhere, with the place; attributes and methods are not among them."""
    found = [(place, node.id) for place, node in nodes(ast.Name) if not isinstance(node.ctx, ast.Load)]
    found += [(place, node.arg) for place, node in nodes(ast.arg)]
    for name, tree in trees():
        found += [(f"{name}:{node.lineno}", node.name) for node in tree.body
                  if isinstance(node, (ast.FunctionDef, ast.ClassDef))]
    return found


def walked(node):
    """The texts of the names, fields and items that a loop over an expression iterates over; a copy has none."""
    if isinstance(node, (ast.Name, ast.Attribute, ast.Subscript)):
        return {ast.unparse(node)}
    inner = []
    if isinstance(node, ast.IfExp):
        inner = [node.body, node.orelse]
    elif isinstance(node, ast.BoolOp):
        inner = node.values
    elif isinstance(node, ast.NamedExpr):
        inner = [node.target, node.value]
    elif isinstance(node, ast.Call) and isinstance(node.func, ast.Name):
        inner = node.args if node.func.id in ("enumerate", "zip", "reversed", "iter") else []
    elif isinstance(node, ast.Call) and isinstance(node.func, ast.Attribute):
        inner = [node.func.value] if node.func.attr in ("items", "keys", "values") else []
    return set().union(*[walked(part) for part in inner])


def renamings(target, value):
    """The sets of texts that stand for one object behind an assignment."""
    pair = (ast.Tuple, ast.List)
    if isinstance(target, pair) and isinstance(value, pair) and len(target.elts) == len(value.elts):
        return [found for one, other in zip(target.elts, value.elts) for found in renamings(one, other)]
    return [walked(target) | walked(value)]


def same_objects(function):
    """The sets of texts that may stand for one object at some time, whatever the order of the assignments is."""
    groups = []
    for node in ast.walk(function):
        if isinstance(node, ast.Assign):
            told = [found for target in node.targets for found in renamings(target, node.value)]
        else:
            told = renamings(node.target, node.value) if isinstance(node, ast.NamedExpr) else []
        for group in told:
            met = [other for other in groups if other & group]
            groups = [other for other in groups if not other & group] + [group.union(*met)]
    return groups


def changed(node):
    """The texts of what a node changes."""
    if isinstance(node, ast.Call) and isinstance(node.func, ast.Attribute) and node.func.attr in CHANGING:
        return {ast.unparse(node.func.value)}
    if isinstance(node, ast.Call) and isinstance(node.func, ast.Name) and node.func.id in HEAPS:
        return {ast.unparse(node.args[0])}
    if isinstance(node, ast.Subscript) and not isinstance(node.ctx, ast.Load):
        return {ast.unparse(node.value)}
    return {ast.unparse(node.target)} if isinstance(node, ast.AugAssign) else set()


def changed_in_loops(tree):
    """The ascending list of the lines that change what a loop or comprehension around them iterates over.

    What it iterates over may have another name there, also one that it is given for a later turn of a loop.
    """
    lines = set()
    for function in [node for node in ast.walk(tree) if isinstance(node, ast.FunctionDef)]:
        groups = same_objects(function)
        for node in ast.walk(function):
            if isinstance(node, ast.For):
                heads, rows = [node.iter], node.body
            elif isinstance(node, (ast.ListComp, ast.SetComp, ast.DictComp, ast.GeneratorExp)):
                heads, rows = [part.iter for part in node.generators], [node]
            else:
                continue
            names = set().union(*[walked(head) for head in heads])
            names = names.union(*[group for group in groups if group & names])
            lines |= {x.lineno for row in rows for x in ast.walk(row) if changed(x) & names}
    return sorted(lines)


class FilesTest(unittest.TestCase):
    def test_the_folder(self):
        for path in PACKAGE.iterdir():
            if path.name != "__pycache__":
                self.assertRegex(path.name, r"^[a-z][a-z0-9_]*\.py$|^__(init|main)__\.py$")
        self.assertTrue((PACKAGE / "__init__.py").is_file())

    def test_characters_and_sizes(self):
        for path in files():
            text = path.read_text(encoding="utf-8")
            lines = text.split("\n")
            self.assertEqual([x for x in text if x != "\n" and not " " <= x <= "~"], [], path.name)
            self.assertLessEqual(len(lines), 400, path.name)
            self.assertLessEqual(max(len(line) for line in lines), 120, path.name)
        for place, node in nodes(ast.FunctionDef):
            self.assertLessEqual(node.end_lineno - node.lineno + 1, 40, place)

    def test_words(self):
        for path in files():
            text = path.read_text(encoding="utf-8")
            self.assertEqual([word for word in WORDS if re.search(rf"\b{word}\b", text)], [], path.name)
            self.assertNotRegex(text, "dataclass|overload|contextmanager")


class StatementsTest(unittest.TestCase):
    def test_imports(self):
        for place, node in nodes(ast.ImportFrom):
            words = [alias.name for alias in node.names]
            self.assertEqual((node.level, [alias.asname for alias in node.names]), (0, [None] * len(words)), place)
            if node.module in OUTSIDE:
                self.assertLessEqual(set(words), set(OUTSIDE[node.module].split()), place)
            else:
                self.assertRegex(node.module, r"^unbrokenruns\.[a-z_]+$", place)
                tree = dict(trees())[node.module.split(".")[1] + ".py"]
                defined = {x.name for x in tree.body if isinstance(x, (ast.FunctionDef, ast.ClassDef))}
                defined |= {x.targets[0].id for x in tree.body if isinstance(x, ast.Assign)}
                self.assertLessEqual(set(words), defined, place)

    def test_no_two_files_import_from_each_other(self):
        above = {name: {node.module.split(".")[1] + ".py" for node in tree.body
                        if isinstance(node, ast.ImportFrom) and node.module not in OUTSIDE} for name, tree in trees()}
        while above:
            free = [name for name in above if not above[name] & set(above)]
            self.assertNotEqual(free, [], above)
            above = {name: above[name] for name in above if name not in free}

    def test_module_level(self):
        for name, tree in trees():
            self.assertIsNotNone(ast.get_docstring(tree), name)
            for node in tree.body[1:]:
                self.assertIsInstance(node, (ast.ImportFrom, ast.Assign, ast.FunctionDef, ast.ClassDef), name)
                if isinstance(node, ast.Assign):
                    ast.literal_eval(node.value)

    def test_barred_nodes(self):
        self.assertEqual([place for place, _ in nodes(BARRED)], [])
        self.assertEqual([place for place, node in nodes(ast.Constant) if isinstance(node.value, (float, complex))], [])
        for place, node in nodes(ast.FunctionDef):
            self.assertIsNone(node.returns, place)
        for place, node in nodes(ast.arg):
            self.assertIsNone(node.annotation, place)

    def test_decorators(self):
        for place, node in nodes((ast.FunctionDef, ast.ClassDef)):
            for mark in node.decorator_list:
                self.assertRegex(ast.unparse(mark), r"^(property|staticmethod|classmethod|[a-z_]+\.setter)$", place)

    def test_strings(self):
        for place, node in nodes(ast.Constant):
            if isinstance(node.value, str):
                self.assertNotIn("%", node.value, place)

    def test_no_sets(self):
        self.assertEqual([place for place, _ in nodes((ast.Set, ast.SetComp))], [])
        self.assertEqual([place for place, node in nodes(ast.Name) if node.id in ("set", "frozenset")], [])

    def test_is(self):
        for place, node in nodes(ast.Compare):
            for sign, side in zip(node.ops, node.comparators):
                if isinstance(sign, (ast.Is, ast.IsNot)):
                    self.assertIn(getattr(side, "value", "other"), (None, True, False), place)


class NamesTest(unittest.TestCase):
    def test_builtins(self):
        known = set(dir(builtins)) - BUILTINS
        for place, node in nodes(ast.Name):
            self.assertNotIn(node.id, known, place)

    def test_no_builtin_gets_another_meaning(self):
        for place, name in bound_names():
            self.assertFalse(hasattr(builtins, name), f"{place} {name}")
            self.assertRegex(name, r"^(_|_?[A-Za-z][A-Za-z0-9_]*)$", place)

    def test_no_name_of_an_import_or_a_class_is_bound_again(self):
        for name, tree in trees():
            taken = {alias.name for node in ast.walk(tree) if isinstance(node, ast.ImportFrom) for alias in node.names}
            taken |= {node.name for node in tree.body if isinstance(node, ast.ClassDef)}
            for node in ast.walk(tree):
                if isinstance(node, ast.arg):
                    self.assertNotIn(node.arg, taken, name)
                if isinstance(node, ast.Name) and not isinstance(node.ctx, ast.Load):
                    self.assertNotIn(node.id, taken, name)

    def test_double_underscores(self):
        for place, node in nodes(ast.FunctionDef):
            if node.name.startswith("__"):
                self.assertIn(node.name, DOUBLE, place)
        for place, node in nodes(ast.Attribute):
            if node.attr.startswith("__"):
                self.assertEqual(node.attr, "__init__", place)

    def test_methods_that_are_called(self):
        own = {node.name for _, node in nodes(ast.FunctionDef)}
        for place, node in nodes(ast.Call):
            if isinstance(node.func, ast.Attribute):
                self.assertIn(node.func.attr, METHODS | own, place)

    def test_sorted_with_an_order_in_the_package(self):
        """Because a class has an order, sorted takes only what is plainly numbers or strings."""
        for place, node in nodes(ast.Call):
            if isinstance(node.func, ast.Name) and node.func.id == "sorted":
                keys = [word.value.id for word in node.keywords if word.arg == "key"
                        and isinstance(word.value, ast.Name)]
                plain = isinstance(node.args[0], ast.ListComp) and isinstance(node.args[0].elt, ast.Call)
                self.assertTrue(plain or set(keys) & {"str", "int", "len"}, place)

    def test_least_and_greatest_are_of_plain_numbers(self):
        """Because a class has an order, at least one argument is a number that stands there."""
        for place, node in nodes(ast.Call):
            if isinstance(node.func, ast.Name) and node.func.id in ("min", "max"):
                self.assertTrue(any(isinstance(arg, ast.Constant) for arg in node.args), place)

    def test_nothing_of_itertools_products(self):
        """Because a run is iterated over and has a length."""
        for place, node in nodes(ast.ImportFrom):
            words = {alias.name for alias in node.names}
            self.assertEqual(words & {"product", "combinations", "permutations"}, set(), place)


class ClassesTest(unittest.TestCase):
    def stored(self, tree):
        """The names of the attributes that are assigned anywhere in a tree."""
        return {node.attr for node in ast.walk(tree) if isinstance(node, ast.Attribute)
                and not isinstance(node.ctx, ast.Load)}

    def test_no_name_is_a_method_and_an_attribute_of_a_class(self):
        for place, node in nodes(ast.ClassDef):
            methods = {x.name for x in node.body if isinstance(x, ast.FunctionDef)}
            self.assertEqual(methods & self.stored(node), set(), place)

    def test_no_name_is_a_method_of_one_class_and_an_attribute_of_another(self):
        """The rules allow some of these; without any there is nothing to decide."""
        methods = {node.name for _, outer in nodes(ast.ClassDef) for node in outer.body
                   if isinstance(node, ast.FunctionDef)}
        for name, tree in trees():
            self.assertEqual(methods & self.stored(tree), set(), name)

    def test_no_property_is_assigned(self):
        named = {node.name for _, node in nodes(ast.FunctionDef) if node.decorator_list}
        for name, tree in trees():
            self.assertEqual(named & self.stored(tree), set(), name)

    def test_each_attribute_that_is_read_is_a_method_or_assigned(self):
        known = {node.name for _, node in nodes(ast.FunctionDef)} | METHODS
        known |= set().union(*[self.stored(tree) for _, tree in trees()])
        known |= {node.targets[0].id for _, outer in nodes(ast.ClassDef) for node in outer.body
                  if isinstance(node, ast.Assign)}
        for place, node in nodes(ast.Attribute):
            self.assertIn(node.attr, known | {"__init__", "setter"}, place)


class LoopsTest(unittest.TestCase):
    def test_what_a_loop_iterates_over_is_not_changed_in_it(self):
        changing = {"append", "extend", "insert", "pop", "remove", "clear", "update", "reverse", "setdefault"}
        for place, loop in nodes(ast.For):
            head = {ast.unparse(node) for node in ast.walk(loop.iter) if isinstance(node, (ast.Name, ast.Attribute))}
            for node in [x for row in loop.body for x in ast.walk(row)]:
                if isinstance(node, ast.Call) and isinstance(node.func, ast.Attribute) and node.func.attr in changing:
                    self.assertNotIn(ast.unparse(node.func.value), head, place)
                if isinstance(node, ast.Subscript) and not isinstance(node.ctx, ast.Load):
                    self.assertNotIn(ast.unparse(node.value), head, place)

    def test_what_a_loop_iterates_over_is_not_changed_by_another_name(self):
        for name, tree in trees():
            self.assertEqual(changed_in_loops(tree), [], name)

    def check_line(self, rows, line):
        """Checks which line of the rows of a function, counted from 1, is told; None if none is."""
        source = "\n".join(["def f(self, a, b, c):", *["    " + row for row in rows]])
        self.assertEqual(changed_in_loops(ast.parse(source)), [] if line is None else [line + 1], source)

    def test_changes_by_another_name_are_found(self):
        self.check_line(["while a:", "    b = []", "    for x in a:", "        b.append(x)", "    a = b"], 4)
        self.check_line(["c = a", "b = c", "for x in a:", "    b[x] = 1"], 4)
        self.check_line(["self.rows = a", "for x in enumerate(self.rows):", "    del a[0]"], 3)
        self.check_line(["b = self.rows[1]", "for x, y in b.items():", "    self.rows[1].clear()"], 3)
        self.check_line(["b = a if c else []", "for x in b:", "    a.pop()"], 3)
        self.check_line(["b, c = c or a, 1", "for x in zip(a, [1]):", "    b += [x]"], 3)
        self.check_line(["if b := a:", "    for x in reversed(a):", "        heappush(b, x)"], 3)
        self.check_line(["for x in a if c else b:", "    b.extend([x])"], 2)
        self.check_line(["b = a", "return [b.pop() for x in c for y in a]"], 2)

    def test_changes_of_a_copy_or_of_another_list_are_not_found(self):
        self.check_line(["while a:", "    b = []", "    for x in list(a):", "        b.append(x)", "    a = b"], None)
        self.check_line(["while a:", "    b = []", "    for x in a:", "        b.append(x)", "    a = list(b)"], None)
        self.check_line(["b, d = a, c", "for x in b:", "    d.append(x)"], None)
        self.check_line(["b = [*a]", "for x in a:", "    b.append(x)", "    a[0].append(x)"], None)
        self.check_line(["for x in a:", "    b = c", "else:", "    a.append(b)"], None)

    def test_generators_are_iterated_at_once(self):
        named = {node.name for _, node in nodes(ast.FunctionDef)
                 if any(isinstance(x, (ast.Yield, ast.YieldFrom)) for x in ast.walk(node))}
        for name, tree in trees():
            allowed = [node.iter for node in ast.walk(tree) if isinstance(node, (ast.For, ast.comprehension))]
            calls = [node for node in ast.walk(tree) if isinstance(node, ast.Call) and isinstance(node.func, ast.Name)]
            for node in calls:
                if node.func.id in ("list", "tuple", "dict"):
                    allowed.extend(node.args)
            for node in calls:
                if node.func.id in named:
                    self.assertIn(node, allowed, f"{name}:{node.lineno}")
