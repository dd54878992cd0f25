"""Point 4.2: steady values, causal paths and value papers."""

import itertools
import unittest

from loopgates.circuits.circuits import circuit_from, gate_names, make_circuit
from loopgates.errors import InvalidCircuit, InvalidSetting, TooMany, UnknownName
from loopgates.settling.causes import (
    causal_path, is_causal_path, is_steady, is_value_paper, steady_values, value_paper)
from loopgates.settling.derivations import derivation, derive_all
from loopgates.settling.known import known_values
from tests import oracle
from tests.samples import (
    CROSS, Case, EMPTY, LUCKY, MIXED, OSC, TIE, all_rows, chain, greatest, odd_values, random_circuit, ring, settings_of,
    small_circuits, word_like)


def is_path(circuit, setting, gate, value):
    """Return what the document says of a tuple of wires."""
    sources = {name: read for name, read, _ in circuit[1]}
    known = {**setting, **known_values(circuit, setting)}
    names = [name for name, _ in value]
    if not value or names[0] != gate or len(set(names)) != len(names) or any(known[name] != 2 for name in names):
        return False
    ends = [sources[name][wire] for name, wire in value]
    return ends[:-1] == names[1:] and (ends[-1] in names or (ends[-1] in circuit[0] and known[ends[-1]] == 2))


class SteadyValues(Case):
    def test_examples(self):
        self.same(
            [list(steady_values(LUCKY, {})), causal_path(TIE, {"a": 0}, "x"), value_paper(OSC, {"a": 1}, "x")],
            [[{"n": 0, "y": 1}, {"n": 2, "y": 2}], (("x", 1),), ("steady", {"x": 2})])

    def test_small_ones(self):
        self.same(list(steady_values(TIE, {"a": 0})), [{"x": 0}, {"x": 1}, {"x": 2}])
        self.same(list(steady_values(TIE, {"a": 1})), [{"x": 1}])
        self.same(list(steady_values(TIE, {"a": 2})), [{"x": 1}, {"x": 2}])
        self.same(list(steady_values(OSC, {"a": 1})), [{"x": 2}])
        self.same([list(steady_values(EMPTY, {})), list(steady_values(make_circuit("a"), {"a": 2}))], [[{}], [{}]])

    def test_against_the_definition(self):
        for circuit in small_circuits(60) + [random_circuit(seed, 1, 5, 4) for seed in range(300, 320)]:
            for setting in settings_of(circuit, (0, 1, 2)):
                wanted = oracle.steady(circuit, setting)
                self.same(list(steady_values(circuit, setting)), wanted, (circuit, setting))
                for row in all_rows((0, 1, 2), min(len(circuit[1]), 4)):
                    value = dict(zip(gate_names(circuit), row))
                    self.same(is_steady(circuit, setting, value), value in wanted, (circuit, setting, value))

    def test_the_order_of_keys_does_not_matter(self):
        for row in all_rows((0, 1, 2), 3):
            value = dict(zip("pqu", row))
            turned = {name: value[name] for name in "upq"}
            for setting in ({"c": 2, "a": 1}, {"a": 1, "c": 2}):
                self.same(is_steady(CROSS, setting, turned), is_steady(CROSS, {"a": 1, "c": 2}, value))
        self.same(is_steady(LUCKY, {}, {"y": 1, "n": 0}), True)
        self.same(list(steady_values(CROSS, {"c": 2, "a": 1})), list(steady_values(CROSS, {"a": 1, "c": 2})))

    def test_eight_gates_and_nine(self):
        eight = ring(8)
        names = gate_names(eight)
        self.same(list(steady_values(eight, {})), [{name: value for name in names} for value in (0, 1, 2)])
        free = circuit_from((), {name: ("buffer", name) for name in names})
        found = list(steady_values(free, {}))
        self.same([tuple(values.values()) for values in found], all_rows((0, 1, 2), 8))
        self.same([list(values) for values in found[::1000]], [list(names)] * 7)
        self.same(self.refuses(TooMany, next, steady_values(ring(9), {})).limit, 8)
        self.same(self.refuses(TooMany, next, steady_values(greatest(), {name: 0 for name in "abcdefghijkl"})).limit, 8)

    def test_generator_in_part_and_again(self):
        setting = {"a": 0}
        first = steady_values(TIE, setting)
        self.same(next(first), {"x": 0})
        second = steady_values(TIE, setting)
        self.same(next(second), {"x": 0})
        changed = next(first)
        self.same(changed, {"x": 1})
        changed["x"] = 0
        changed["y"] = 5
        self.same(list(first), [{"x": 2}])
        setting["a"] = 1
        self.same(list(second), [{"x": 1}, {"x": 2}])
        self.same(list(steady_values(TIE, setting)), [{"x": 1}])

    def test_errors_are_raised_at_the_first_result(self):
        for circuit, setting, kind in (
                (None, {}, InvalidCircuit), (TIE, {}, InvalidSetting), ([], None, InvalidCircuit), (ring(9), {}, TooMany),
                (ring(9), {"a": 0}, InvalidSetting), ((), {}, InvalidCircuit)):
            values = steady_values(circuit, setting)
            self.refuses(kind, next, values)

    def test_more_than_eight_gates_are_judged(self):
        circuit = ring(200)
        for value in (0, 1, 2):
            values = {name: value for name in gate_names(circuit)}
            self.same(is_steady(circuit, {}, values), True)
            values[word_like(100)] = (value + 1) % 3
            self.same(is_steady(circuit, {}, values), False)
        circuit = greatest()
        for bit in (0, 1, 2):
            setting = {name: bit for name in circuit[0]}
            known = known_values(circuit, setting)
            self.same(is_steady(circuit, setting, known), True)
            changed = dict(known)
            changed[word_like(7)] = (known[word_like(7)] + 1) % 3
            self.same(is_steady(circuit, setting, changed), False)

    def test_what_is_not_steady(self):
        good = {"n": 0, "y": 1}
        self.same([is_steady(LUCKY, {}, good), is_steady(LUCKY, {}, {"n": 2, "y": 2})], [True, True])
        for value in (
                {}, {"n": 0}, {"y": 1}, {"n": 0, "y": 1, "x": 2}, {"n": 0, "x": 1}, {"n": 1, "y": 0}, {"n": 0, "y": 0},
                {"n": 2, "y": 1}, {"n": 0, "y": 2}, {"n": False, "y": True}, {"n": False, "y": 1}, {"n": 0, "y": True},
                {"n": None, "y": 1}, {"n": "0", "y": "1"}, {"n": [0], "y": 1}, {"n": 3, "y": 3}, {"n": -1, "y": 2}, (0, 1),
                (("n", 0), ("y", 1)), [("n", 0), ("y", 1)], ("n", "y"), "ny", None, 0, True, {0: 0, 1: 1}, {"n": 0, None: 1},
                {"n": 10 ** 39, "y": 1}):
            self.same(is_steady(LUCKY, {}, value), False, value)
        for value in odd_values():
            self.same(is_steady(TIE, {"a": 0}, value), repr(value) == "{'x': 2}", value)
            self.same(is_steady(TIE, {"a": 0}, {"x": value}), type(value) is int and value in (0, 1, 2), value)
            self.same(is_steady(EMPTY, {}, value), repr(value) == "{}", value)


class CausalPaths(Case):
    def test_every_gate_that_is_not_derived_has_one(self):
        for circuit in small_circuits(60) + [MIXED]:
            for setting in settings_of(circuit, (0, 1, 2)):
                known = known_values(circuit, setting)
                for gate in gate_names(circuit):
                    path = self.pure(causal_path, circuit, setting, gate)
                    if known[gate] != 2:
                        self.same(path, None)
                    else:
                        self.same(is_path(circuit, setting, gate, path), True, path)
                    self.same(is_causal_path(circuit, setting, gate, path), path is not None, path)

    def test_all_tuples_of_wires(self):
        for circuit in [TIE, OSC, LUCKY, CROSS] + [random_circuit(seed, 2, 3, 2) for seed in range(25)]:
            wires = [(name, k) for name, sources, _ in circuit[1] for k in range(len(sources))]
            tuples = [value for length in range(4) for value in itertools.product(wires, repeat=length)]
            for setting in settings_of(circuit, (0, 2)):
                for gate in gate_names(circuit):
                    for value in tuples:
                        wanted = is_path(circuit, setting, gate, value)
                        self.same(is_causal_path(circuit, setting, gate, value), wanted, (circuit, setting, gate, value))

    def test_ends(self):
        circuit = make_circuit("a", "b", x=("or", "y", "a", "x"), y=("and", "z", "b", "y"), z=("not", "y"), w=("xor", "x", "z"))
        at = {"a": 2, "b": 1}
        for value in (
                (("x", 1),), (("x", 2),), (("x", 0), ("y", 0), ("z", 0)), (("x", 0), ("y", 2))):
            self.same(is_causal_path(circuit, at, "x", value), True, value)
        for value in (
                (("x", 0),), (("x", 0), ("y", 0)), (("x", 0), ("y", 1)), (("x", 0), ("z", 0)), (("x", 2), ("x", 2)),
                (("x", 1), ("x", 1)), (("y", 2),), (("x", 0), ("y", 0), ("z", 0), ("y", 2)), (), (("x", 0), ("y", 2), ("y", 2)),
                (("x", 3),), (("x", -1),), (("x", 0), ("y", 3)), (("a", 0),), (("x", 1), ("a", 0)), [("x", 1)], (["x", 1],),
                (("x", True),), (("x", "1"),), (("x",),), (("x", 1, 0),), ("x", 1), (("x", False), ("y", 2)), ((["x"], 1),),
                (("x", [1]),), None, "x", {("x", 1): 0}, 0, True, (("q", 0),), (("x", None),)):
            self.same(is_causal_path(circuit, at, "x", value), False, value)
        self.same(is_causal_path(circuit, {"a": 0, "b": 1}, "x", (("x", 1),)), False)
        self.same(is_causal_path(circuit, at, "w", (("w", 0), ("x", 1))), True)
        self.same(is_causal_path(circuit, at, "w", (("w", 1), ("z", 0), ("y", 0))), True)
        self.same(is_causal_path(circuit, at, "w", (("x", 1),)), False)

    def test_a_derived_gate_has_none(self):
        self.same([causal_path(TIE, {"a": 1}, "x"), is_causal_path(TIE, {"a": 1}, "x", (("x", 1),))], [None, False])
        circuit = make_circuit("a", x=("or", "y", "a"), y=("not", "x"))
        self.same(is_causal_path(circuit, {"a": 1}, "x", (("x", 0), ("y", 0))), False)
        circuit = make_circuit("a", x=("and", "y", "a"), y=("or", "x", "one"), one=("one",))
        self.same(is_causal_path(circuit, {"a": 2}, "x", (("x", 0), ("y", 0))), False)
        self.same(is_causal_path(circuit, {"a": 2}, "x", (("x", 1),)), True)

    def test_greatest(self):
        circuit = chain(200)
        path = tuple((word_like(k), 0) for k in range(199, -1, -1))
        self.same(causal_path(circuit, {"a": 2}, word_like(199)), path)
        self.same(is_causal_path(circuit, {"a": 2}, word_like(199), path), True)
        self.same(is_causal_path(circuit, {"a": 1}, word_like(199), path), False)
        self.same(is_causal_path(circuit, {"a": 2}, word_like(199), path[:-1]), False)
        circuit = ring(200)
        path = causal_path(circuit, {}, word_like(3))
        self.same(len(path), 200)
        self.same(is_causal_path(circuit, {}, word_like(3), path), True)
        circuit = greatest()
        setting = {name: 2 for name in circuit[0]}
        for gate in gate_names(circuit)[::10]:
            self.same(is_causal_path(circuit, setting, gate, causal_path(circuit, setting, gate)), True)

    def test_every_kind_of_value(self):
        for value in odd_values():
            wanted = repr(value) == "(('x', 1),)"
            self.same(is_causal_path(TIE, {"a": 0}, "x", value), wanted, value)
            self.same(is_causal_path(TIE, {"a": 0}, "x", (value,)), repr(value) == "('x', 1)", value)
            self.same(is_causal_path(TIE, {"a": 0}, "x", ((value, 1),)), value == "x", value)
            self.same(is_causal_path(TIE, {"a": 0}, "x", (("x", value),)), type(value) is int and value == 1, value)


class ValuePapers(Case):
    def test_exactly_one_kind_exists(self):
        for circuit in small_circuits(50) + [MIXED]:
            for setting in settings_of(circuit, (0, 1, 2)):
                known = known_values(circuit, setting)
                for gate in gate_names(circuit):
                    paper = self.pure(value_paper, circuit, setting, gate)
                    self.same(paper[0], "steady" if known[gate] == 2 else "derived")
                    self.same(len(paper), 2)
                    self.same(is_value_paper(circuit, setting, gate, paper), True, paper)
                    for other in gate_names(circuit):
                        right = other == gate or (paper[0] == "steady" and paper[1][other] == 2)
                        self.same(is_value_paper(circuit, setting, other, paper), right, (paper, other))
                    if len(circuit[1]) < 4:
                        for values in oracle.steady(circuit, setting):
                            self.same(is_value_paper(circuit, setting, gate, ("steady", values)), values[gate] == 2)

    def test_right_ones_and_wrong_ones(self):
        line = ("x", 1, (0,))
        at = {"a": 1}
        self.same(is_value_paper(TIE, at, "x", ("derived", (line,))), True)
        self.same(is_value_paper(TIE, {"a": 0}, "x", ("steady", {"x": 2})), True)
        for value in (
                ("derived", line), ("derived", [line]), ("derived", ()), ("derived", ((line,),)), ["derived", (line,)],
                ("derive", (line,)), ("steady", (line,)), ("derived", {"x": 2}), ("derived", (line,), ()), ("derived",), (line,),
                ("derived", (("x", True, (0,)),)), ("derived", (("x", 0, (0,)),)), ("derived", (("x", 1, (1,)),)), ("steady", {"x": 2}),
                ("steady", {"x": 1}), ("steady", {}), ((line,), "derived"), {"derived": (line,)}, "derived", None, True, 0,
                (["derived"], (line,)), (None, (line,)), (True, (line,)), ("Derived", (line,)), ("derived", None), ("steady", None)):
            self.same(is_value_paper(TIE, at, "x", value), False, value)
        for value in (
                ("steady", {"x": 1}), ("steady", {"x": 0}), ("steady", {"x": True}), ("steady", {"x": 3}), ("steady", {}),
                ("steady", {"x": 2, "a": 0}), ("steady", (("x", 2),)), ["steady", {"x": 2}], ("steady", [{"x": 2}]),
                ("derived", {"x": 2}), ("derived", (line,)), ("steady", {"x": 2}, {}), ("steady", "x"), ("steady", ("x",)), ({"x": 2},)):
            self.same(is_value_paper(TIE, {"a": 0}, "x", value), False, value)
        self.same(is_value_paper(LUCKY, {}, "y", ("steady", {"y": 2, "n": 2})), True)
        self.same(is_value_paper(LUCKY, {}, "y", ("steady", {"y": 1, "n": 0})), False)
        self.same(is_value_paper(CROSS, {"c": 1, "a": 0}, "p", ("derived", derive_all(CROSS, {"a": 0, "c": 1}))), True)
        self.same(is_value_paper(CROSS, {"c": 1, "a": 0}, "q", ("derived", derive_all(CROSS, {"a": 0, "c": 1}))), False)

    def test_every_kind_of_value(self):
        for value in odd_values():
            self.same(is_value_paper(TIE, {"a": 0}, "x", value), repr(value) == "('steady', {'x': 2})", value)
            self.same(is_value_paper(TIE, {"a": 1}, "x", value), repr(value) == "('derived', (('x', 1, (0,)),))", value)
            self.same(is_value_paper(TIE, {"a": 0}, "x", ("steady", value)), repr(value) == "{'x': 2}", value)
            self.same(is_value_paper(TIE, {"a": 1}, "x", ("derived", value)), repr(value) == "(('x', 1, (0,)),)", value)
            self.same(is_value_paper(TIE, {"a": 0}, "x", (value, {"x": 2})), False, value)

    def test_greatest(self):
        circuit = chain(200)
        last = word_like(199)
        self.same(value_paper(circuit, {"a": 0}, last), ("derived", derivation(circuit, {"a": 0}, last)))
        self.same(value_paper(circuit, {"a": 2}, last), ("steady", {word_like(k): 2 for k in range(200)}))
        circuit = greatest()
        for row in all_rows((0, 1, 2), 2):
            setting = {name: row[k % 2] for k, name in enumerate(circuit[0])}
            for gate in gate_names(circuit)[::50]:
                self.same(is_value_paper(circuit, setting, gate, value_paper(circuit, setting, gate)), True)


class CauseErrors(Case):
    def test_what_is_no_circuit(self):
        for value in odd_values():
            if value != (("a",), ()):
                self.refuses(InvalidCircuit, is_steady, value, None, None)
                self.refuses(InvalidCircuit, list, steady_values(value, None))
                self.refuses(InvalidCircuit, causal_path, value, None, None)
                self.refuses(InvalidCircuit, is_causal_path, value, None, None, None)
                self.refuses(InvalidCircuit, value_paper, value, None, None)
                self.refuses(InvalidCircuit, is_value_paper, value, None, None, None)

    def test_what_is_no_setting(self):
        for value in odd_values():
            if repr(value) not in ("{'a': 0}", "{'a': 1}", "{'a': 2}"):
                self.refuses(InvalidSetting, is_steady, TIE, value, None)
                self.refuses(InvalidSetting, list, steady_values(TIE, value))
                self.refuses(InvalidSetting, causal_path, TIE, value, None)
                self.refuses(InvalidSetting, is_causal_path, TIE, value, None, None)
                self.refuses(InvalidSetting, value_paper, TIE, value, None)
                self.refuses(InvalidSetting, is_value_paper, TIE, value, None, None)

    def test_what_is_no_gate(self):
        for value in odd_values():
            if value != "x":
                for setting in ({"a": 0}, {"a": 1}):
                    self.same(self.refuses(UnknownName, causal_path, TIE, setting, value).name, value)
                    self.same(self.refuses(UnknownName, is_causal_path, TIE, setting, value, (("x", 1),)).name, value)
                    self.same(self.refuses(UnknownName, value_paper, TIE, setting, value).name, value)
                    self.same(self.refuses(UnknownName, is_value_paper, TIE, setting, value, ("steady", {"x": 2})).name, value)

    def test_arguments_stay(self):
        setting = {"c": 2, "a": 1}
        for gate in "pqu":
            self.pure(causal_path, CROSS, setting, gate)
            self.pure(value_paper, CROSS, setting, gate)
            self.pure(is_causal_path, CROSS, setting, gate, causal_path(CROSS, setting, gate))
            self.pure(is_value_paper, CROSS, setting, gate, ("steady", {"u": 2, "q": 2, "p": 2}))
        self.pure(is_steady, CROSS, setting, {"u": 2, "q": 2, "p": 2})
        self.pure(lambda circuit, setting: list(steady_values(circuit, setting)), CROSS, setting)
        value_paper(CROSS, setting, "p")[1].clear()
        self.same(value_paper(CROSS, setting, "p")[1], {"p": 2, "q": 2, "u": 2})


if __name__ == "__main__":
    unittest.main()
