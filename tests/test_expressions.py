"""Points 18.1 and 18.2: signals and equations."""

import random
import unittest

from loopgates.base.tables import word_table
from loopgates.circuits.circuits import gate_names, is_circuit, make_circuit
from loopgates.errors import InvalidCircuit, InvalidNumber, InvalidOperation, InvalidSetting, ParseError, TooMany
from loopgates.settling.known import known_values
from loopgates.text.expressions import Signal, compiled, compiled_from, equations_of
from tests import oracle
from tests.samples import (
    CROSS, Case, EMPTY, LUCKY, MIXED, OSC, TIE, all_rows, greatest, odd_values, random_circuit, ring, settings_of, small_circuits, word_like)

A, B, C = [Signal.variable(name) for name in "abc"]
ZERO, ONE = Signal.bit(0), Signal.bit(1)
LEVELS = {"|": 1, "^": 2, "&": 3, "~": 4}


def some_tree(dice, depth):
    """Return an expression by chance, as nested tuples."""
    if depth == 0 or dice.randint(0, 5) == 0:
        return (dice.choice(("a", "b", "c", "long", "abcdefgh", "0", "1")),)
    if dice.randint(0, 3) == 0:
        return ("~", some_tree(dice, depth - 1))
    return (dice.choice("&^|"), some_tree(dice, depth - 1), some_tree(dice, depth - 1))


def signal_of(tree):
    """Return the signal of a tree, made by operators."""
    if len(tree) == 1:
        return Signal.bit(int(tree[0])) if tree[0] in "01" else Signal.variable(tree[0])
    if tree[0] == "~":
        return ~signal_of(tree[1])
    one, other = signal_of(tree[1]), signal_of(tree[2])
    return one & other if tree[0] == "&" else one | other if tree[0] == "|" else one ^ other


def text_of(tree):
    """Return the text of a tree with only the parentheses that are needed."""
    if len(tree) == 1:
        return tree[0]
    level = LEVELS[tree[0]]
    texts = [text_of(part) for part in tree[1:]]
    levels = [5 if len(part) == 1 else LEVELS[part[0]] for part in tree[1:]]
    if tree[0] == "~":
        return "~" + (texts[0] if levels[0] >= level else f"({texts[0]})")
    left = texts[0] if levels[0] >= level else f"({texts[0]})"
    right = texts[1] if levels[1] > level else f"({texts[1]})"
    return f"{left} {tree[0]} {right}"


def loose_text(dice, tree):
    """Return a text of a tree with more parentheses and with blanks by chance."""
    def gap():
        return " " * dice.choice((0, 0, 1, 2))

    if len(tree) == 1:
        text = tree[0]
    elif tree[0] == "~":
        text = "~" + gap() + "(" + loose_text(dice, tree[1]) + ")"
    else:
        one, other = ["(" + gap() + loose_text(dice, part) + ")" for part in tree[1:]]
        text = one + gap() + tree[0] + gap() + other
    return gap() + ("(" * (more := dice.choice((0, 0, 1, 2)))) + text + gap() + ")" * more + gap()


def value_of(tree, values):
    """Return the value of a tree: what the values of its parts force."""
    if len(tree) == 1:
        return int(tree[0]) if tree[0] in "01" else values[tree[0]]
    table = {"~": (1, 0), "&": (0, 0, 0, 1), "|": (0, 1, 1, 1), "^": (0, 1, 1, 0)}[tree[0]]
    return oracle.forced(table, [value_of(part, values) for part in tree[1:]])


def size_of(tree):
    """Return the number of names, bits and operators."""
    return 1 + sum(size_of(part) for part in tree[1:])


def names_of(tree):
    """Return the set of the names in a tree."""
    if len(tree) == 1:
        return set() if tree[0] in "01" else {tree[0]}
    return set().union(*[names_of(part) for part in tree[1:]])


class Signals(Case):
    def test_examples(self):
        self.same(
            [str(Signal.read("(a & ~b)|c")), compiled(x="a | x") == TIE, Signal.read("a ^ a")({"a": 2})], ["a & ~b | c", True, 2])

    def test_by_chance(self):
        for seed in range(300):
            dice = random.Random(seed)
            tree = some_tree(dice, dice.randint(0, 5))
            signal = signal_of(tree)
            self.same([str(signal), signal.size, signal.names], [text_of(tree), size_of(tree), tuple(sorted(names_of(tree)))])
            self.assertTrue(Signal.read(text_of(tree)) == signal)
            self.assertTrue(Signal.read(loose_text(dice, tree)) == signal)
            values = {name: dice.choice((0, 1, 2)) for name in [*names_of(tree), "more", "a"]}
            self.same(self.pure(signal, values), value_of(tree, values))
            other = some_tree(dice, 2)
            self.same(signal == signal_of(other), tree == other)
            if Signal.read(text_of(other)) == signal:
                self.same(tree, other)

    def test_how_close_operators_bind(self):
        for text, signal in (
                ("a|b^c&a", A | (B ^ (C & A))), ("a&b^c|a", ((A & B) ^ C) | A), ("a|b|c", (A | B) | C), ("a^b^c", (A ^ B) ^ C), ("a&b&c", (A & B) & C),
                ("~a&b", (~A) & B), ("~(a&b)", ~(A & B)), ("~~a", ~~A), ("a & (b & c)", A & (B & C)), ("a|(b|c)", A | (B | C)), ("(a|b)&c", (A | B) & C),
                ("a&(b|c)", A & (B | C)), ("a^(b^c)", A ^ (B ^ C)), ("~(~a|0)^1", ~(~A | ZERO) ^ ONE), ("((((a))))", A), ("  ~  ( a )  ", ~A), ("0", ZERO), (" 1 ", ONE)):
            self.assertTrue(Signal.read(text) == signal, text)
        for signal, text in (
                (A & (B & C), "a & (b & c)"), ((A & B) & C, "a & b & c"), ((A | B) & C, "(a | b) & c"), (A | (B & C), "a | b & c"), (~(A ^ B), "~(a ^ b)"),
                (~~A, "~~a"), ((A ^ B) | C, "a ^ b | c"), (A ^ (B | C), "a ^ (b | c)"), ((~A) & ~B, "~a & ~b"), (~(~A & ONE), "~(~a & 1)"), (A ^ (B ^ C), "a ^ (b ^ c)")):
            self.same(str(signal), text)

    def test_texts_that_are_none(self):
        for text in odd_values() + [
                "", " ", "()", "a b", "a a", "a0", "0a", "01", "1 0", "a~b", "a~", "~", "a &", "& a", "a & & b", "a && b", "a | | b", "(a", "a)", "(a))", ")a(", "a(b)",
                "(a)(b)", "(a)b", "a(", "a\tb", "a\n", "\na", "a &\tb", "A", "aB", "a_b", "a-b", "a + b", "a.b", "abcdefghi", "a & abcdefghi", "2", "a ^", "~&a", "a & ~", "\u00e9",
                "a\u00a0", "a & b)", "((a)", "a = b", "a, b", "!a", "a ~ b", b"a", A, ["a"], ("a",), None]:
            if text not in ("a", "x", "abcdefgh", "zzzzzzzz", "and", " a") and repr(text) not in ("'a'",):
                self.refuses(ParseError, Signal.read, text)
        self.assertTrue(Signal.read(" a") == A)
        self.same([str(Signal.read("and & or | not")), Signal.read("zzzzzzzz").size], ["and & or | not", 1])

    def test_sizes(self):
        signal = A
        for k in range(199):
            signal = ~signal
        self.same([signal.size, str(signal), signal({"a": 1})], [200, "~" * 199 + "a", 0])
        self.same(self.refuses(TooMany, lambda: ~signal).limit, 200)
        half = A
        for _ in range(49):
            half = half & B
        self.same([half.size, (half | half).size if half.size < 100 else 0], [99, 199])
        self.same((~(half ^ half)).size, 200)
        for call in (lambda: (~half) | half & ~A, lambda: signal & A, lambda: A ^ signal, lambda: (~half) & (~half), lambda: signal | signal):
            self.same(self.refuses(TooMany, call).limit, 200)
        self.same([signal.size, half.size], [200, 99])
        self.assertTrue(Signal.read(str(signal)) == signal)
        self.assertTrue(Signal.read(str(~(half ^ half))) == ~(half ^ half))
        self.refuses(ParseError, Signal.read, "~" * 200 + "a")
        self.refuses(ParseError, Signal.read, "a&" * 100 + "a")
        self.same(Signal.read("a&" * 99 + "a").size, 199)
        self.same(Signal.read("~" + "a&" * 99 + "a").size, 200)

    def test_long_texts(self):
        self.assertTrue(Signal.read("(" * 499 + "a" + ")" * 499) == A)
        self.assertTrue(Signal.read(" " * 999 + "a") == A)
        self.assertTrue(Signal.read(("(" * 10 + "~") * 45 + "aa" + ")" * 450) == Signal.read("~" * 45 + "aa"))
        for text in (" " * 1000 + "a", "(" * 500 + "a" + ")" * 500, "a" + " " * 1000, "(" * 1000, "~" * 1000, "a" * 1000, "a&" * 500):
            self.refuses(ParseError, Signal.read, text)
        name = Signal.variable("abcdefgh")
        long = name
        for _ in range(99):
            long = long & name
        self.same([long.size, len(str(long))], [199, 1097])
        self.refuses(ParseError, Signal.read, str(long))
        exact = name
        for _ in range(90):
            exact = exact & name
        self.same(len(str(exact)), 998)
        self.assertTrue(Signal.read(str(exact) + "  ") == exact)
        self.refuses(ParseError, Signal.read, str(exact) + "   ")

    def test_deep_signals(self):
        for call in (lambda one: A & one, lambda one: one & A, lambda one: A | one, lambda one: A ^ one):
            signal = A
            for _ in range(99):
                signal = call(signal)
            self.same([signal.size, signal({"a": 1}) in (0, 1), signal.names], [199, True, ("a",)])
            self.assertTrue(Signal.read(str(signal)) == signal)

    def test_values(self):
        for one in (0, 1, 2):
            for other in (0, 1, 2):
                values = {"a": one, "b": other}
                for signal, table in ((A & B, (0, 0, 0, 1)), (A | B, (0, 1, 1, 1)), (A ^ B, (0, 1, 1, 0))):
                    self.same(signal(values), oracle.forced(table, (one, other)))
            self.same([(~A)({"a": one}), A({"a": one, "zz": 2})], [oracle.forced((1, 0), (one,)), one])
        self.same([ZERO({}), ONE({"a": 2}), (A | ~A)({"a": 2}), (A & ZERO)({"a": 2})], [0, 1, 2, 0])

    def test_errors(self):
        for value in odd_values():
            if value not in ("a", "x", "and", "abcdefgh", "zzzzzzzz"):
                self.refuses(InvalidOperation, Signal.variable, value)
            if not (type(value) is int and value in (0, 1)):
                self.same(self.refuses(InvalidNumber, Signal.bit, value).value, value)
            for call in (lambda: A & value, lambda: A | value, lambda: A ^ value):
                self.refuses(InvalidOperation, call)
            if repr(value) not in ("{'a': 0}", "{'a': 1}", "{'a': 2}", "{'a': 0, 'b': 1}"):
                self.refuses(InvalidSetting, A, value)
            if not (type(value) is int and 0 <= value <= 2):
                self.refuses(InvalidSetting, A, {"a": 1, "b": value})
            self.same([A == value, value == A, A != value], [False, False, True])
        for values in ({}, {"b": 1}, {"a": 1, 1: 1}, {"a": 1, "A": 1}, {"a": 1, "": 0}, {"a": 1, None: 0}):
            self.refuses(InvalidSetting, A, values)
        self.refuses(InvalidOperation, lambda: (A & B) & "c")
        for call in (iter, list, sorted):
            self.refuses(TypeError, call, A)
        for name in ("names", "size"):
            with self.assertRaises(AttributeError):
                setattr(A, name, 1)

    def test_signals_never_change(self):
        one = A & B
        other = one | C
        self.same([str(one), str(other), str(~one), str(one), str(other)], ["a & b", "a & b | c", "~(a & b)", "a & b", "a & b | c"])
        self.assertFalse(A & B == B & A)
        self.assertFalse((A & B) & C == A & (B & C))
        self.assertTrue((A & B) & C == A & B & C)


class Equations(Case):
    def test_made_circuits(self):
        self.same(compiled(x="a | x"), TIE)
        self.same(compiled(x="~(a & x)")[1][-1][0], "x")
        self.same(compiled(n="~y", y="n | y"), LUCKY)
        self.same([compiled(), compiled_from({})], [EMPTY, EMPTY])
        self.same(compiled(x="y", y="x"), make_circuit(x=("buffer", "y"), y=("buffer", "x")))
        self.same(compiled(x="a", y="0", z=ONE), make_circuit("a", x=("buffer", "a"), y=("zero",), z=("one",)))
        self.same(compiled_from({"or": "self & x", "self": A}), ((("a", "x")), (
            ("or", ("self", "x"), (0, 0, 0, 1)), ("self", ("a",), (0, 1)))))
        self.same(compiled(self="~a"), make_circuit("a", self=("not", "a")))

    def test_by_chance(self):
        for seed in range(150):
            dice = random.Random(seed)
            trees = {name: some_tree(dice, dice.randint(0, 3)) for name in dice.sample(("a", "b", "x", "aaa", "aab", "long"), dice.randint(1, 4))}
            equations = {name: signal_of(tree) if dice.randint(0, 1) else loose_text(dice, tree) for name, tree in trees.items()}
            circuit = self.pure(compiled_from, {name: value for name, value in equations.items() if isinstance(value, str)})
            circuit = compiled_from(equations)
            self.same([is_circuit(circuit), compiled(**equations)], [True, circuit])
            others = set().union(*[names_of(tree) for tree in trees.values()]) - set(trees)
            self.same(circuit[0], tuple(sorted(others)))
            self.same(len(circuit[1]), sum(
                max(1, size_of(tree) - len([sign for sign in text_of(tree).replace("(", " ").replace(")", " ").replace("~", " ").split()
                                             if sign.isalpha()])) for tree in trees.values()))
            for setting in settings_of(circuit, (0, 1, 2))[:40]:
                self.same({name: known_values(circuit, setting)[name] for name in sorted(trees)}, least(trees, setting))

    def test_limits(self):
        names = [word_like(k) for k in range(14)]
        self.same(len(compiled(x="&".join(names[:12]))[0]), 12)
        self.same(self.refuses(TooMany, compiled, x="&".join(names[:13])).limit, 12)
        self.same(self.refuses(TooMany, compiled, x="&".join(names[:7]), y="|".join(names[6:13])).limit, 12)
        self.same(len(compiled(**{names[0]: "&".join(names[:13])})[0]), 12)
        rows = {word_like(k): "~" * 20 + "a" for k in range(10)}
        self.same(len(compiled_from(rows)[1]), 200)
        self.same(self.refuses(TooMany, compiled_from, {**rows, "x": "a"}).limit, 200)
        self.same(self.refuses(TooMany, compiled_from, {**rows, "x": "&".join(word_like(k + 99) for k in range(13))}).limit, 12)
        single = {word_like(k): word_like(k - 1) if k else "a" for k in range(200)}
        self.same(len(compiled_from(single)[1]), 200)
        self.same(self.refuses(TooMany, compiled_from, {**single, "x": "0"}).limit, 200)
        self.same(len(compiled(x="~" * 199 + "x")[1]), 199)

    def test_inner_gates_have_names_of_their_own(self):
        taken = {word_like(k): "~(a & b) | aak" for k in range(10)}
        circuit = compiled_from(taken)
        self.same([is_circuit(circuit), circuit[0], len(circuit[1])], [True, ("a", "aak", "b"), 30])

    def test_errors(self):
        for value in odd_values():
            if repr(value) != "{}":
                self.refuses(InvalidOperation, compiled_from, value)
            if not isinstance(value, str):
                self.refuses(InvalidOperation, compiled, x=value)
                self.refuses(InvalidOperation, compiled_from, {"a": "&", "x": value})
            elif value not in ("a", "x", "abcdefgh", "zzzzzzzz", "and", " a"):
                self.refuses(ParseError, compiled, x=value)
        for equations in ({"A": "a"}, {1: "a"}, {"": "a"}, {None: "a"}, {"x": "(", "abcdefghi": "a"}, {("x",): "a"}, [("x", "a")]):
            self.refuses(InvalidOperation, compiled_from, equations)
        self.refuses(ParseError, compiled, x="&".join(word_like(k) for k in range(13)), y="(")
        self.refuses(ParseError, compiled, x="a", y="")
        for value in odd_values():
            if value != (("a",), ()):
                self.refuses(InvalidCircuit, equations_of, value)


def least(trees, setting):
    """Return the least values with which all equations agree."""
    values = {**setting, **{name: 2 for name in trees}}
    while True:
        after = {**setting, **{name: value_of(tree, values) for name, tree in trees.items()}}
        if after == values:
            return {name: values[name] for name in sorted(trees)}
        values = after


class Circuits(Case):
    def check(self, circuit, most=60):
        """Check that the equations of a circuit make the same known values."""
        found = self.pure(lambda own: {name: str(signal) for name, signal in equations_of(own).items()}, circuit)
        self.same(list(found), list(gate_names(circuit)))
        signals = equations_of(circuit)
        for name, sources, _ in circuit[1]:
            self.assertTrue(set(signals[name].names) <= set(sources))
            self.assertTrue(Signal.read(found[name]) == signals[name])
        try:
            made = compiled_from(signals)
        except TooMany:
            self.assertTrue(len(circuit[1]) > 4 or max(len(sources) for _, sources, _ in circuit[1]) > 3)
            return False
        self.assertTrue(set(made[0]) <= set(circuit[0]))
        settings = settings_of(circuit, (0, 1, 2))
        for setting in settings if len(settings) <= most else random.Random(1).sample(settings, most):
            known = known_values(made, {name: setting[name] for name in made[0]})
            self.same({name: known[name] for name in gate_names(circuit)}, known_values(circuit, setting))
        return True

    def test_known_values(self):
        for circuit in small_circuits(60, 3, 4) + [MIXED, ring(5), OSC]:
            self.same(self.check(circuit), True)
        for seed in range(60):
            self.check(random_circuit(seed, seed % 4, 1 + seed % 5, 4))
        self.same([str(signal) for signal in equations_of(CROSS).values()][0], "~u")

    def test_all_tables(self):
        for wires in range(4):
            for table in all_rows((0, 1), 2 ** wires):
                signal = equations_of((tuple("abc"[:wires]), (("x", tuple("abc"[:wires]), table),)))["x"]
                for row in all_rows((0, 1, 2), wires):
                    self.assertEqual(signal(dict(zip("abc", row))), oracle.forced(table, row))
        dice = random.Random(8)
        for _ in range(150):
            table = tuple(dice.randint(0, 1) for _ in range(16))
            sources = tuple(dice.choice("abcd") for _ in range(4))
            signal = equations_of((tuple("abcd"), (("x", sources, table),)))["x"]
            for row in all_rows((0, 1, 2), 4):
                values = dict(zip("abcd", row))
                self.assertEqual(signal(values), oracle.forced(table, [values[source] for source in sources]))

    def test_one_source_by_two_wires(self):
        for word in ("xor", "and", "or", "nand", "same"):
            circuit = make_circuit("a", x=(word, "a", "a"), y=(word, "y", "y"), z=(word, "y", "a", "a") if word != "choose" else ("one",))
            self.same(self.check(circuit), True)

    def test_four_gates_of_three_wires(self):
        words = [word_table(word, wires=3) for word in ("xor", "same", "and", "nor")] + [(0, 1, 1, 1, 1, 1, 1, 0), (1, 0, 0, 1, 1, 1, 1, 0)]
        for seed in range(40):
            dice = random.Random(seed)
            circuit = make_circuit("a", "b", **{
                name: (dice.choice(words), *[dice.choice("abpqrs") for _ in range(3)]) for name in "pqrs"})
            self.same(self.check(circuit), True)

    def test_great_ones(self):
        self.same(len(equations_of(greatest())), 200)
        self.check(greatest())
        self.same(compiled_from(equations_of(ring(200))), ring(200))


if __name__ == "__main__":
    unittest.main()
