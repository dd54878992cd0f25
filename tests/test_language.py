"""Rules of the subset of Python in which the package is written, as far as a test can see them."""

import ast
import builtins
import pathlib
import re
import unittest

ROOT = pathlib.Path(__file__).resolve().parent.parent
PACKAGE = ROOT / "loopgates"
FILES = sorted(path for path in PACKAGE.rglob("*.py"))
INTERFACE = {
    "base/names": "is_name is_bit is_row continues UNKNOWN",
    "base/tables": "is_table wires_of value_at used_wires prime_rows word_table table_word fixed joined negated MAX_WIRES",
    "circuits/circuits":
        "is_circuit make_circuit circuit_from gate_names sources_of table_of readers renamed renamed_by held held_by cone"
        " cone_of MAX_INPUTS MAX_GATES",
    "circuits/loops": "parts loop_gates is_loop_free levels shortest_loop is_loop_of",
    "settling/known": "known_values known_value ranks derived_rounds settles_all",
    "settling/derivations": "derivation is_derivation derive_all needed_lines",
    "settling/causes": "is_steady steady_values causal_path is_causal_path value_paper is_value_paper",
    "runs/states": "nodes is_state plain_state state_from bit_of wish_of excited stepped stepped_by",
    "runs/plays": "Play",
    "runs/fair": "is_step_loop is_fair_loop flipping_gates",
    "runs/flips": "flipping_loop settling_paper is_settling_paper",
    "runs/force": "rest_states lasting_states lasting_bits",
    "formulas/formulas": "Formula MAX_NAMES",
    "formulas/settles": "settles_formula settles_formulas settled_formula first_unsettled",
    "unrolled/unrolled": "unrolled unrolled_by is_unrolling least_copies gate_formulas first_difference",
    "modules/behaviours":
        "is_module make_module module_from is_behaviour behaviour_of behaviour_from behaviour_by answer output_primes"
        " behaviour_of_primes first_unlike MAX_PORTS MAX_OUTPUTS",
    "modules/nets": "Net MAX_PARTS",
    "modules/surroundings": "is_surrounding result closed_circuit separating is_separating",
    "modules/realized": "realized realized_plain is_realization looping_outputs",
    "machines/machines": "is_machine make_machine machine_from tick outputs_of Runner MAX_REGISTERS",
    "machines/reach": "reached_states machine_paper is_machine_paper shortest_flip",
    "machines/compare": "separating_history least_likeness is_likeness plain_table",
    "bench/bench": "Bench",
    "text/expressions": "Signal compiled compiled_from equations_of",
    "text/formats":
        "format_table parse_table format_circuit parse_circuit format_setting parse_setting format_lines parse_lines",
    "text/shell": "Shell",
    "errors":
        "CircuitError InvalidTable InvalidRow InvalidCircuit InvalidSetting InvalidState InvalidStep InvalidValues InvalidFormula"
        " InvalidModule InvalidBehaviour InvalidNet InvalidMachine InvalidOperation InvalidEdit ParseError InvalidCommand"
        " InvalidNumber UnknownName Conflict TooMany Flipping NothingToUndo",
}
CLASSES = {
    ("runs/plays", "Play"):
        "__init__ circuit setting state steps rounds excited change step step_by rush turn undo twin __len__ __bool__"
        " __contains__ __eq__ __str__",
    ("formulas/formulas", "Formula"):
        "variable bit of_table __and__ __or__ __xor__ __invert__ __eq__ implies __call__ names __len__ __bool__ __str__"
        " total settings first restricted restricted_by some every",
    ("modules/nets", "Net"):
        "made single inputs parts wires outputs __call__ values_at passes behaviour flattened grouped __add__ replaced"
        " __contains__ __len__ __eq__ __str__",
    ("machines/machines", "Runner"): "__init__ machine state history set_state __call__ ticks back __len__ __eq__ twin",
    ("bench/bench", "Bench"):
        "__init__ of circuit setting known watched groups apply apply_all change change_by undo redo watch unwatch why unknown"
        " during __contains__ __len__ __getitem__ __iter__ __eq__ __str__ twin",
    ("text/expressions", "Signal"):
        "variable bit read __and__ __or__ __xor__ __invert__ names size __call__ __str__ __eq__",
    ("text/shell", "Shell"): "__init__ run answers bench __len__ __contains__ __str__",
}
BUILTINS = set(
    "len range enumerate zip min max sum abs sorted reversed int str bool list tuple dict set isinstance ord repr any all divmod"
    " iter property classmethod type Exception ValueError TypeError KeyError IndexError LookupError ZeroDivisionError ArithmeticError OverflowError RuntimeError"
    " NotImplementedError NotImplemented".split())
METHODS = set(
    "append clear copy count endswith extend find get index insert isalnum isalpha isdigit islower isspace isupper items join keys"
    " ljust lower lstrip partition pop remove replace reverse rfind rjust rpartition rsplit rstrip setdefault split splitlines"
    " startswith strip update upper values zfill bit_length add discard isascii popleft removeprefix".split())
NEVER = set("mro elements open input law version_info with_traceback add_note register".split())
WORDS = ("type", "typing", "typing_extensions", "enum", "Enum", "IntEnum", "StrEnum", "Flag", "IntFlag", "Generic", "Protocol",
         "ABC", "ABCMeta", "namedtuple", "NamedTuple", "TypedDict", "abstractmethod", "dataclass", "overload", "contextmanager")
BARRED = (
    ast.AsyncFunctionDef, ast.AsyncFor, ast.AsyncWith, ast.Await, ast.GeneratorExp, ast.Global, ast.Lambda, ast.NamedExpr,
    ast.Div, ast.With)
LIBRARY = {"heapq", "math", "itertools", "collections"}


def bound_names(function):
    """Return the names of the parameters and local variables of a function."""
    names = [argument.arg for argument in ast.walk(function.args) if isinstance(argument, ast.arg)]
    names.extend(node.id for node in ast.walk(function) if isinstance(node, ast.Name) and isinstance(node.ctx, ast.Store))
    return names


class Language(unittest.TestCase):
    @classmethod
    def setUpClass(cls):
        """Find the names of all methods and attributes of the classes of the package."""
        cls.own = set()
        cls.attributes = set()
        cls.properties = set()
        for path in FILES:
            for node in ast.walk(ast.parse(path.read_text())):
                if isinstance(node, ast.ClassDef):
                    for child in node.body:
                        if isinstance(child, ast.FunctionDef):
                            decorators = [ast.unparse(decorator) for decorator in child.decorator_list]
                            (cls.properties if "property" in decorators else cls.own).add(child.name)
                if isinstance(node, ast.Attribute) and isinstance(node.ctx, ast.Store):
                    cls.attributes.add(node.attr)

    def each(self):
        """Yield each file with its text and its tree."""
        for path in FILES:
            text = path.read_text(encoding="ascii")
            yield path, text, ast.parse(text)

    def test_files(self):
        self.assertTrue(FILES)
        for path in PACKAGE.rglob("*"):
            if "__pycache__" not in path.parts:
                self.assertTrue(path.is_dir() or path.suffix == ".py", path)
                self.assertRegex(path.stem, r"\A[a-z_0-9]+\Z")
                if path.is_dir():
                    self.assertTrue((path / "__init__.py").exists(), path)
                    self.assertFalse(path.with_suffix(".py").exists(), path)
                self.assertNotIn(path.stem, dir(builtins))

    def test_sizes_and_characters(self):
        for path, text, tree in self.each():
            lines = text.split("\n")
            self.assertLessEqual(len(lines), 399, path)
            for number, line in enumerate(lines, start=1):
                self.assertLessEqual(len(line), 120, (path, number))
                self.assertTrue(all(" " <= sign <= "~" for sign in line), (path, number))
                self.assertEqual(line, line.rstrip(), (path, number))
            for node in ast.walk(tree):
                if isinstance(node, ast.FunctionDef):
                    self.assertLessEqual(node.end_lineno - node.lineno + 1, 40, (path, node.name))
                    for decorator in node.decorator_list:
                        self.assertIn(ast.unparse(decorator), ("property", "classmethod", node.name + ".setter"), (path, node.name))
                    self.assertTrue(ast.get_docstring(node) or node.name.startswith("__"), (path, node.name))

    def test_module_level(self):
        for path, _, tree in self.each():
            names = []
            for at, node in enumerate(tree.body):
                docstring = at == 0 and isinstance(node, ast.Expr) and isinstance(node.value, ast.Constant)
                plain = isinstance(node, (ast.ImportFrom, ast.FunctionDef, ast.ClassDef, ast.Assign))
                self.assertTrue(docstring or plain, (path, node.lineno))
                if isinstance(node, ast.ImportFrom):
                    names.extend(alias.name for alias in node.names)
                elif isinstance(node, ast.Assign):
                    names.extend(target.id for target in node.targets)
                elif not docstring:
                    names.append(node.name)
            self.assertEqual(len(names), len(set(names)), path)
            self.assertFalse(set(names) & set(dir(builtins)), path)

    def test_imports(self):
        reads = {}
        for path, _, tree in self.each():
            reads[path] = []
            for node in ast.walk(tree):
                self.assertNotIsInstance(node, ast.Import, path)
                if isinstance(node, ast.ImportFrom):
                    self.assertEqual(node.level, 0, path)
                    self.assertTrue(all(alias.asname is None and alias.name != "*" for alias in node.names), path)
                    if node.module not in LIBRARY:
                        source = ROOT / (node.module.replace(".", "/") + ".py")
                        self.assertIn(source, FILES, path)
                        defined = [child for child in ast.parse(source.read_text()).body if not isinstance(child, ast.ImportFrom)]
                        own = {getattr(child, "name", None) for child in defined}
                        own |= {child.targets[0].id for child in defined if isinstance(child, ast.Assign)}
                        self.assertTrue({alias.name for alias in node.names} <= own, (path, node.module))
                        reads[path].append(source)
                    used = {child.id for child in ast.walk(tree) if isinstance(child, ast.Name)}
                    self.assertTrue({alias.name for alias in node.names} <= used, (path, node.module))
        done = set()
        while reads:
            ready = [path for path in reads if set(reads[path]) <= done]
            self.assertTrue(ready, "files that import one another")
            for path in ready:
                done.add(path)
                del reads[path]

    def test_statements_and_expressions(self):
        for path, _, tree in self.each():
            for node in ast.walk(tree):
                at = (path, getattr(node, "lineno", None))
                self.assertNotIsInstance(node, BARRED, at)
                if isinstance(node, ast.Constant):
                    self.assertNotIsInstance(node.value, (float, complex), at)
                    if isinstance(node.value, str):
                        self.assertNotIn("%", node.value, at)
                if isinstance(node, ast.Compare):
                    for sign, other in zip(node.ops, node.comparators):
                        if isinstance(sign, (ast.Is, ast.IsNot)) and not ast.unparse(node.left).startswith("type("):
                            self.assertIn(repr(getattr(other, "value", 0)), ("None", "True", "False"), at)
                if isinstance(node, ast.SetComp):
                    self.assertIn("sorted({", ast.unparse(tree), at)
                if isinstance(node, ast.FormattedValue):
                    self.assertEqual(node.conversion, -1, at)
                    self.assertIn(node.format_spec and ast.unparse(node.format_spec), (None, "f'b'"), at)
                if isinstance(node, ast.Set):
                    self.fail(at)
                if isinstance(node, ast.Raise):
                    self.assertIsInstance(node.exc, ast.Call, at)
                if isinstance(node, ast.Try):
                    self.assertEqual([node.handlers, node.orelse], [[], []], at)
                    for line in node.finalbody:
                        self.assertRegex(ast.unparse(line), r"\A(self\.)?[a-z_]+ = [a-z_]+\Z", at)

    def test_names(self):
        for path, text, tree in self.each():
            module = {alias.name for node in tree.body if isinstance(node, ast.ImportFrom) for alias in node.names}
            module |= {node.name for node in tree.body if isinstance(node, (ast.ClassDef, ast.FunctionDef))}
            for node in ast.walk(tree):
                if isinstance(node, ast.FunctionDef):
                    for name in bound_names(node):
                        self.assertNotIn(name, module, (path, node.name))
                        self.assertNotIn(name, dir(builtins), (path, node.name))
                        self.assertRegex(name, r"\A([a-z][a-z_0-9]*|_)\Z", (path, node.name))
                    self.assertNotIn("_", [n.id for n in ast.walk(node) if isinstance(n, ast.Name) and isinstance(n.ctx, ast.Load)])
                if isinstance(node, ast.Name):
                    self.assertNotIn(node.id, NEVER, path)
                    if node.id in dir(builtins):
                        self.assertIn(node.id, BUILTINS, path)
                if isinstance(node, ast.Attribute):
                    self.assertNotIn(node.attr, NEVER, path)
                    self.assertFalse(node.attr.startswith("__"), path)
            bare = re.sub(r'"""(.|\n)*?"""|#.*', "", text)
            bare = re.sub(r"\btype\([a-z_0-9\[\]]+\) is (not )?(int|str|tuple|dict)\b", "", bare)
            for word in WORDS:
                self.assertIsNone(re.search(rf"\b{word}\b", bare), (path, word))

    def test_methods(self):
        for path, _, tree in self.each():
            for node in ast.walk(tree):
                if isinstance(node, ast.Call) and isinstance(node.func, ast.Attribute) and node.func.attr not in self.own:
                    self.assertIn(node.func.attr, METHODS, (path, node.lineno))
                    self.assertEqual(node.keywords, [], (path, node.lineno))

    def test_views_are_iterated_at_once(self):
        for path, _, tree in self.each():
            for node in ast.walk(tree):
                if isinstance(node, ast.Assign) and isinstance(node.value, ast.Call):
                    name = getattr(node.value.func, "id", getattr(node.value.func, "attr", ""))
                    self.assertNotIn(name, ("zip", "enumerate", "reversed", "items", "keys", "values", "map"), (path, node.lineno))

    def test_names_of_methods_and_attributes(self):
        plain = {name for name in self.own if not name.startswith("__")} - {"setting", "state"}
        self.assertFalse(plain & METHODS)
        self.assertFalse(plain & self.attributes)
        self.assertFalse(plain & self.properties)
        self.assertFalse((self.properties - {"setting", "state"}) & self.attributes)

    def test_called_methods_are_no_attributes(self):
        # By its name such a call may be one of something that an object holds (L5, L18).
        for path, _, tree in self.each():
            for node in ast.walk(tree):
                if isinstance(node, ast.Call) and isinstance(node.func, ast.Attribute):
                    self.assertNotIn(node.func.attr, self.attributes, (path, node.lineno))
        self.assertFalse(self.attributes & METHODS)

    def test_what_lengths_give_back(self):
        many = 0
        for path, _, tree in self.each():
            for function in ast.walk(tree):
                if isinstance(function, ast.FunctionDef) and function.name == "__len__":
                    many += 1
                    self.assertIsInstance(function.body[-1], ast.Return, path)
                    for node in ast.walk(function):
                        if isinstance(node, ast.Return):
                            self.assertRegex(ast.unparse(node.value), r"\A(len\((?!range\().*\)|[0-9]+)\Z", (path, node.lineno))
        self.assertEqual(many, sum("__len__" in words.split() for words in CLASSES.values()))

    def keeps(self, node):
        """Return whether a property does nothing but keep what it worked out, in the one form for this."""
        form = r"if self\.(_[a-z]+) is None:\n    self\.\1 = [^\n]+\nreturn self\.\1\Z"
        return re.match(form, "\n".join(ast.unparse(child) for child in node.body[1:])) is not None

    def test_operators_and_properties_change_nothing(self):
        changing = ("append", "extend", "update", "pop", "insert", "remove", "clear", "reverse", "setdefault", "popleft")
        for path, _, tree in self.each():
            for node in ast.walk(tree):
                if isinstance(node, ast.FunctionDef) and (node.name.startswith("__") or node.decorator_list):
                    if node.name in ("__init__", "__call__") or ast.unparse(node).startswith(("@setting.setter", "@state.setter")):
                        continue
                    if self.keeps(node):
                        continue
                    for child in ast.walk(node):
                        if isinstance(child, (ast.Attribute, ast.Subscript)):
                            self.assertIsInstance(child.ctx, ast.Load, (path, node.name))
                        if isinstance(child, ast.Call) and isinstance(child.func, ast.Attribute):
                            self.assertNotIn(child.func.attr, changing, (path, node.name))

    def test_what_a_class_with_items_asks_for(self):
        for path, text, tree in self.each():
            for word in ("(type)", "Meta", "metaclass="):
                self.assertNotIn(word, text, path)
            for node in ast.walk(tree):
                if isinstance(node, ast.ClassDef):
                    own = {child.name for child in node.body if isinstance(child, ast.FunctionDef)}
                    self.assertLessEqual({"__getitem__"} & own, {"__getitem__"} if "__iter__" in own else set(), path)
                if isinstance(node, ast.Call) and getattr(node.func, "id", None) == "reversed":
                    self.assertRegex(ast.unparse(node), r"\Areversed\((list|tuple|sorted|range)\(", path)

    def test_generators(self):
        found = {}
        for path, _, tree in self.each():
            for node in ast.walk(tree):
                if isinstance(node, ast.FunctionDef):
                    own = any(isinstance(child, (ast.Yield, ast.YieldFrom)) for child in ast.walk(node))
                    found.setdefault(node.name, []).append(own)
        walks = {name for name in found if any(found[name])}
        self.assertEqual({len(found[name]) for name in walks}, {1})
        for path, _, tree in self.each():
            for node in ast.walk(tree):
                for child in ast.iter_child_nodes(node):
                    if isinstance(child, ast.Call) and getattr(child.func, "id", getattr(child.func, "attr", "")) in walks:
                        at_once = isinstance(node, (ast.For, ast.comprehension)) or isinstance(node, ast.Call)
                        self.assertTrue(at_once, (path, child.lineno))

    def test_methods_of_the_interface(self):
        for (name, kind), words in CLASSES.items():
            tree = ast.parse((PACKAGE / (name + ".py")).read_text())
            found = [node for node in tree.body if isinstance(node, ast.ClassDef) and node.name == kind]
            own = {child.name for child in found[0].body if isinstance(child, ast.FunctionDef)}
            self.assertFalse(set(words.split()) - own, kind)

    def test_interface(self):
        for name, words in INTERFACE.items():
            tree = ast.parse((PACKAGE / (name + ".py")).read_text())
            own = {getattr(node, "name", None) for node in tree.body}
            own |= {node.targets[0].id for node in tree.body if isinstance(node, ast.Assign)}
            for word in words.split():
                self.assertIn(word, own, name)


if __name__ == "__main__":
    unittest.main()
