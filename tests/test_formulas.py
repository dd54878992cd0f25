"""Point 8.1: formulas of Boolean functions."""

import itertools
import random
import unittest

from loopgates.base.tables import word_table
from loopgates.errors import InvalidFormula, InvalidNumber, InvalidSetting, InvalidTable, TooMany
from loopgates.formulas import formulas
from loopgates.formulas.formulas import Formula
from tests import oracle
from tests.samples import Case, all_rows, odd_values

A, B, C, D = [Formula.variable(name) for name in "abcd"]
NO, YES = Formula.bit(0), Formula.bit(1)
NAMES = tuple("abcd")


def variables(names):
    """Return a list of the formulas of these names."""
    return [Formula.variable(name) for name in names]


def joined(sign, some):
    """Return the formulas together with one operator between them."""
    found = some[0]
    for other in some[1:]:
        found = {"&": lambda: found & other, "|": lambda: found | other, "^": lambda: found ^ other}[sign]()
    return found


def results(formula, names=NAMES):
    """Return the tuple of the results at all settings of the names, ascending."""
    return tuple(formula(dict(zip(names, bits))) for bits in all_rows((0, 1), len(names)))


def of_results(bits):
    """Return a formula over four names with these sixteen results, made with operators alone."""
    found = NO
    for row, bit in zip(all_rows((0, 1), 4), bits):
        if bit:
            found = found | joined("&", [one if k else ~one for one, k in zip((A, B, C, D), row)])
    return found


def diagram(names, bits):
    """Return the set of the nodes of the reduced diagram and its top, from the definition in 8.1."""
    if len(set(bits)) == 1:
        return set(), bits[0]
    half = len(bits) // 2
    low_nodes, low = diagram(names[1:], bits[:half])
    high_nodes, high = diagram(names[1:], bits[half:])
    if low == high:
        return low_nodes, low
    node = (names[0], low, high)
    return low_nodes | high_nodes | {node}, node


def text_of(node):
    """Return the text of a node of a diagram, by the words of the document."""
    if node in (0, 1):
        return str(node)
    name, low, high = node
    inner = [text_of(side) if side in (0, 1) else f"({text_of(side)})" for side in (high, low)]
    return f"{name} ? {inner[0]} : {inner[1]}"


def some_results():
    """Return results of functions of four names: those of few ones, of few names, and others by chance."""
    dice = random.Random(8)
    found = [(0,) * 16, (1,) * 16, (0, 1) * 8, (0,) * 8 + (1,) * 8, (0, 0, 1, 1) * 4, (0, 1, 1, 0) * 4, (0,) * 15 + (1,)]
    found += [bits + bits for bits in all_rows((0, 1), 8)[3::29]]
    found += [tuple(dice.randint(0, 1) for _ in range(16)) for _ in range(40)]
    return found


class Making(Case):
    def test_example(self):
        f = Formula.variable("a") & ~Formula.variable("b")
        self.same(
            [f.names, len(f), f({"a": 1, "b": 0}), f.total(("a", "b", "c")), str(f), f.implies(Formula.variable("a")),
             f.some("a") == ~Formula.variable("b")],
            [("a", "b"), 2, 1, 2, "a ? (b ? 0 : 1) : 0", True, True])
        self.same(formulas.MAX_NAMES, 12)

    def test_variables_and_bits(self):
        self.same([A.names, len(A), str(A), bool(A), A({"a": 0}), A({"a": 1})], [("a",), 1, "a ? 1 : 0", True, 0, 1])
        self.same([NO.names, len(NO), str(NO), bool(NO), NO({})], [(), 0, "0", False, 0])
        self.same([YES.names, len(YES), str(YES), bool(YES), YES({})], [(), 0, "1", True, 1])
        self.same(Formula.variable("abcdefgh").names, ("abcdefgh",))
        for value in odd_values():
            if not (isinstance(value, str) and 1 <= len(value) <= 8 and all("a" <= sign <= "z" for sign in value)):
                self.refuses(InvalidFormula, Formula.variable, value)
            if not (type(value) is int and value in (0, 1)):
                self.same(self.refuses(InvalidNumber, Formula.bit, value).value, value)

    def test_of_table(self):
        for wires in range(4):
            for table in all_rows((0, 1), 2 ** wires):
                for names in (NAMES[:wires], NAMES[:wires][::-1], ("b",) * wires, ("c", "a", "c")[:wires]):
                    made = Formula.of_table(names, table)
                    for bits in all_rows((0, 1), 4):
                        setting = dict(zip(NAMES, bits))
                        self.assertEqual(made(setting), oracle.result(table, [setting[name] for name in names]))
        table = word_table("xor", wires=4)
        self.assertTrue(Formula.of_table(NAMES, table) == A ^ B ^ C ^ D)
        self.assertTrue(Formula.of_table(("a",) * 4, table) == NO)
        self.assertTrue(Formula.of_table((), (1,)) == YES)
        self.same(Formula.of_table(("d", "a"), (0, 0, 1, 1)).names, ("d",))

    def test_of_table_refuses(self):
        for value in odd_values():
            if not (isinstance(value, tuple) and all(isinstance(name, str) and name.isalpha() and name in "abx" for name in value)):
                self.refuses(InvalidFormula, Formula.of_table, value, value)
                self.refuses(InvalidFormula, Formula.of_table, ("a", value) if not isinstance(value, str) else value, (0, 1, 1, 1))
            if value not in ((0,), (1,), (0, 1)) or isinstance(value, list) or True in [v is True for v in value]:
                self.refuses(InvalidTable, Formula.of_table, ("a", "b"), value)
        for names in ((), ("a",), ("a", "b", "c"), ("a",) * 5, ("a",) * 17):
            self.refuses(InvalidFormula, Formula.of_table, names, (0, 1, 1, 1))
            self.refuses(InvalidTable, Formula.of_table, names, (0, 1, 1))
            self.refuses(InvalidTable, Formula.of_table, names, [0, 1])
        self.refuses(InvalidFormula, Formula.of_table, ["a"], None)
        self.refuses(InvalidFormula, Formula.of_table, ("A",), None)


class Functions(Case):
    def test_one_diagram_for_each_function(self):
        for bits in some_results():
            formula = of_results(bits)
            other = Formula.of_table(NAMES, bits)
            turned = Formula.of_table(NAMES[::-1], tuple(oracle.result(bits, row[::-1]) for row in all_rows((0, 1), 4)))
            nodes, top = diagram(NAMES, bits)
            names = tuple(sorted({name for name, _, _ in nodes}))
            for one in (formula, other, turned, ~~formula, formula ^ A ^ A, (formula & C) | (formula & ~C)):
                self.assertTrue(one == formula and formula == one)
                self.same([one.names, len(one), str(one), bool(one)], [names, len(nodes), text_of(top), 1 in bits])
                self.same(results(one), bits)

    def test_operators_at_all_settings(self):
        some = some_results()
        for first, second in zip(some, some[::-1] + some[:1]):
            f, g = Formula.of_table(NAMES, first), of_results(second)
            self.same(results(f & g), tuple(a & b for a, b in zip(first, second)))
            self.same(results(f | g), tuple(a | b for a, b in zip(first, second)))
            self.same(results(f ^ g), tuple(a ^ b for a, b in zip(first, second)))
            self.same(results(~f), tuple(1 - a for a in first))
            self.same(f.implies(g), all(a <= b for a, b in zip(first, second)))
            self.same((f & g).implies(f) and f.implies(f | g), True)
            self.assertTrue(~(f & g) == ~f | ~g)
            self.same(f == g, first == second)

    def test_operators_between_other_names(self):
        names = ("b", "c", "e", "zz")
        for first, second in zip(some_results()[:30], some_results()[10:]):
            f, g = Formula.of_table(NAMES, first), Formula.of_table(names, second)
            for bits in all_rows((0, 1), 6)[::3]:
                setting = dict(zip("abcde", bits)) | {"zz": bits[5]}
                a, b = f(setting), g(setting)
                self.assertEqual([(f & g)(setting), (f | g)(setting), (f ^ g)(setting)], [a & b, a | b, a ^ b])

    def test_constants(self):
        for f in (A, NO, YES, A ^ B):
            self.assertTrue((f & NO) == NO and (f | YES) == YES and (f & YES) == f and (f | NO) == f)
            self.assertTrue((f ^ f) == NO and (f ^ YES) == ~f and (f | ~f) == YES and (f & ~f) == NO)
            self.same([NO.implies(f), f.implies(YES)], [True, True])
        self.same([YES.implies(NO), YES.implies(A), A.implies(NO)], [False, False, False])

    def test_other_operands(self):
        for value in odd_values():
            for call in (lambda: A & value, lambda: A | value, lambda: A ^ value, lambda: A.implies(value), lambda: NO & value):
                self.refuses(InvalidFormula, call)
            self.same([A == value, value == A, A != value], [False, False, True])

    def test_no_iteration(self):
        for call in (iter, list, tuple, sorted):
            self.refuses(TypeError, call, A)

    def test_formulas_never_change(self):
        f = A & B
        before = (f.names, len(f), str(f))
        f & C, f | C, f ^ C, ~f, f.some("a"), f.every("a"), f.restricted(a=1), f({"a": 1, "b": 1}), f.first(("a", "b"))
        list(f.settings(("a", "b")))
        self.same((f.names, len(f), str(f)), before)
        with self.assertRaises(AttributeError):
            f.names = ()


class ManyNames(Case):
    def test_twelve_names_and_thirteen(self):
        names = tuple("abcdefghijkl")
        for sign in "&|^":
            twelve = joined(sign, variables(names))
            self.same([twelve.names, len(twelve)], [names, 23 if sign == "^" else 12])
            for call in (lambda: twelve & Formula.variable("m"), lambda: twelve | Formula.variable("m"), lambda: twelve ^ Formula.variable("m"),
                         lambda: Formula.variable("m") & twelve):
                self.same(self.refuses(TooMany, call).limit, 12)
            self.assertTrue((twelve & Formula.variable("a")).names == (names if sign != "|" else ("a",)))
            self.assertTrue((twelve ^ twelve) == NO)
            self.same((twelve & NO).names, ())
            self.same(((twelve & NO) | Formula.variable("m")).names, ("m",))

    def test_results_with_fewer_names_than_the_operands(self):
        x = Formula.variable("x")
        low = joined("&", variables("abcdefghijk"))
        high = joined("^", variables("lmnopqrstuv"))
        self.assertTrue((x & low) & (~x & high) == NO)
        self.assertTrue((x | low) | (~x | high) == YES)
        for call in (lambda: (x & low) | (~x & high), lambda: (x & low) ^ (~x & high), lambda: (x & low) & (x & high),
                     lambda: (x | low) & (~x | high)):
            self.same(self.refuses(TooMany, call).limit, 12)
        self.assertTrue(((x & low) & (~x & high | x)) == x & low)
        y, z = variables("yz")
        many = joined("^", variables("abcdefghij"))
        other = joined("|", variables("klmnopqrst"))
        first, second = y & z & many, y & ~z & other
        self.assertTrue((first & second) == NO)
        self.assertTrue(((y ^ many) & (y & z & ~z | z & ~y)) == (z & ~y & many))
        self.same(((y & many) & (~y & other | z)).names, tuple("abcdefghijyz"))
        self.assertTrue(((y & many) & (~y & other | z)) == y & z & many)
        self.same([first.implies(second), first.implies(y), first.implies(y | other), (y & ~y).implies(second)], [False, True, True, True])
        self.same([(y & many).implies(y | other), (y & many).implies(~y & other), first.implies(z | other)], [True, False, True])

    def test_common_names_that_cancel(self):
        shared = joined("^", variables("abcdefghij"))
        f = shared ^ Formula.variable("k") ^ Formula.variable("l")
        g = shared ^ Formula.variable("m") ^ Formula.variable("n")
        self.same((f ^ g).names, tuple("klmn"))
        self.assertTrue((f ^ g) == joined("^", variables("klmn")))
        self.refuses(TooMany, lambda: f & g)
        self.refuses(TooMany, lambda: f | g)

    def test_settings_of_twelve_names(self):
        names = tuple("abcdefghijkl")
        odd = joined("^", variables(names))
        found = [tuple(setting.values()) for setting in odd.settings(names)]
        self.same(found, [bits for bits in all_rows((0, 1), 12) if sum(bits) % 2])
        self.same([odd.total(names), YES.total(names), NO.total(names), A.total(names)], [2048, 4096, 0, 2048])
        self.same(self.refuses(TooMany, A.total, names + ("m",)).limit, 12)
        self.same(self.refuses(TooMany, A.first, names + ("m",)).limit, 12)
        self.same(self.refuses(TooMany, next, A.settings(names + ("m",))).limit, 12)
        self.refuses(InvalidFormula, Formula.variable("x").total, names + ("m",))

    def test_long_texts(self):
        names = "abcdefghijkl"
        odd = joined("^", variables(names))
        bits = tuple(sum(row) % 2 for row in all_rows((0, 1), 12))
        nodes, top = diagram(names, bits)
        self.same([len(odd), str(odd) == text_of(top)], [len(nodes), True])
        dice = random.Random(2)
        formula = NO
        for _ in range(60):
            formula = formula ^ joined("&", [one if dice.randint(0, 1) else ~one for one in variables(names) if dice.randint(0, 2)] or [YES])
        nodes, top = diagram(names, results(formula, tuple(names)))
        self.same([len(formula), str(formula) == text_of(top)], [len(nodes), True])


class Settings(Case):
    def test_calls(self):
        f = A & ~B
        self.same([f({"a": 1, "b": 0, "c": 1, "zz": 0}), f({"b": 0, "a": 1}), f({"b": 1, "a": 1})], [1, 1, 0])
        for value in odd_values() + [
                {"a": 1}, {"b": 1}, {"a": 1, "b": 2}, {"a": True, "b": 0}, {"a": 1, "b": 0, "c": 2}, {"a": 1, "b": 0, "C": 1},
                {"a": 1, "b": 0, 1: 1}, {"a": 1, "b": 0, ("a",): 1}, [("a", 1), ("b", 0)], {"a": 1, "b": None}, {"a": 1, "b": 0, "c": []}]:
            if repr(value) != "{'a': 0, 'b': 1}":
                self.refuses(InvalidSetting, f, value)
        self.same([YES({}), YES({"a": 0})], [1, 1])
        self.refuses(InvalidSetting, YES, {"a": 2})
        self.refuses(InvalidSetting, YES, {"A": 1})

    def test_settings_total_and_first(self):
        for bits in some_results()[::3]:
            formula = Formula.of_table(NAMES, bits)
            for names in (NAMES, ("a", "b", "bb", "c", "d"), tuple("abcdef")):
                settings = [dict(zip(names, row)) for row in all_rows((0, 1), len(names))]
                wanted = [setting for setting in settings if formula(setting)]
                self.same(list(formula.settings(names)), wanted)
                self.same(formula.total(names), len(wanted))
                self.same(formula.first(names), wanted[0] if wanted else None)
        self.same([list(YES.settings(())), list(NO.settings(())), YES.first(()), NO.first(()), YES.total(()), NO.total(())], [
            [{}], [], {}, None, 1, 0])

    def test_names_that_are_none(self):
        f = A ^ C
        for value in odd_values() + [("a",), ("c",), (), ("c", "a"), ("a", "a", "c"), ["a", "c"], ("a", "C"), ("a", "c", 1), "ac",
                                     ("b", "c"), ("a", "c", ""), ("a", "c", "b"), {"a": 0, "c": 0}]:
            self.refuses(InvalidFormula, f.total, value)
            self.refuses(InvalidFormula, f.first, value)
            self.refuses(InvalidFormula, next, f.settings(value))
        self.same([f.total(("a", "c")), f.total(("a", "b", "c"))], [2, 4])

    def test_generators_that_are_left_early(self):
        f = A | B
        walk, other = f.settings(("a", "b")), f.settings(("a", "b"))
        first = next(walk)
        self.same([first, next(other)], [{"a": 0, "b": 1}, {"a": 0, "b": 1}])
        first["a"] = 5
        first["c"] = 7
        self.same([next(walk), next(walk), list(walk)], [{"a": 1, "b": 0}, {"a": 1, "b": 1}, []])
        self.same(list(other), [{"a": 1, "b": 0}, {"a": 1, "b": 1}])
        shown = f.first(("a", "b"))
        shown.clear()
        self.same(f.first(("a", "b")), {"a": 0, "b": 1})

    def test_generators_take_errors_to_the_first_result(self):
        A.settings(None)
        self.refuses(InvalidFormula, next, A.settings(None))


class Restricting(Case):
    def test_restricted(self):
        for bits in some_results()[::2]:
            formula = Formula.of_table(NAMES, bits)
            for chosen in ({"a": 1}, {"b": 0}, {"d": 1, "a": 0}, {"x": 1}, {"x": 0, "c": 1}, {}, dict(zip(NAMES, (1, 0, 1, 1)))):
                found = formula.restricted_by(chosen)
                self.assertTrue(found == formula.restricted(**chosen))
                self.assertFalse(set(found.names) & set(chosen))
                for row in all_rows((0, 1), 4):
                    setting = dict(zip(NAMES, row))
                    self.assertEqual(found(setting), formula({**setting, **chosen}))

    def test_some_and_every(self):
        for bits in some_results()[::2]:
            formula = Formula.of_table(NAMES, bits)
            for names in (("a",), ("d", "b"), ("x",), ("a", "a", "x", "c"), (), NAMES):
                some, every = formula.some(*names), formula.every(*names)
                for row in all_rows((0, 1), 4):
                    setting = dict(zip(NAMES, row))
                    ways = [formula({**setting, **dict(zip(names, way))}) for way in itertools.product((0, 1), repeat=len(names))
                            if len(set(zip(names, way))) == len(set(names))]
                    self.assertEqual([some(setting), every(setting)], [max(ways), min(ways)])
                self.assertFalse(set(some.names + every.names) & set(names))

    def test_wrong_names_and_bits(self):
        for value in odd_values():
            if not (isinstance(value, str) and value.isascii() and value.isalpha() and value.islower() and len(value) <= 8):
                self.refuses(InvalidFormula, A.some, value)
                self.refuses(InvalidFormula, A.every, "a", value)
                if isinstance(value, (str, int, type(None))) or value == ():
                    self.refuses(InvalidFormula, A.restricted_by, {value: 1})
            if not (type(value) is int and value in (0, 1)):
                self.refuses(InvalidFormula, A.restricted_by, {"a": value})
                self.refuses(InvalidFormula, A.restricted, a=value)
                self.refuses(InvalidFormula, A.restricted, x=value)
            if not isinstance(value, dict):
                self.refuses(InvalidFormula, A.restricted_by, value)
        self.refuses(InvalidFormula, A.restricted, abcdefghi=1)
        self.refuses(InvalidFormula, A.restricted, A=1)
        self.assertTrue(A.restricted_by({"self": 1, "a": 0}) == NO)
        bits = {"b": 1, "a": 0}
        (A ^ B).restricted_by(bits)
        self.same(bits, {"b": 1, "a": 0})


class Speed(Case):
    def test_thousands_of_small_questions(self):
        f = joined("^", [A, B & C, D])
        for k in range(4000):
            self.assertEqual(f({"a": k & 1, "b": 1, "c": 0, "d": 0}), k & 1)
            self.assertTrue((f & A).implies(f))

    def test_many_operators_with_twelve_names(self):
        names = "abcdefghijkl"
        odd = joined("^", variables(names))
        for k in range(300):
            name = Formula.variable(names[k % 12])
            odd = odd ^ name if k % 2 else (odd | name) & odd
            self.assertTrue(len(odd) > 3)


if __name__ == "__main__":
    unittest.main()
