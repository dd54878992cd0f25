"""Points 0.10 and 0.11: circuits that are made and asked."""

import random
import unittest

from loopgates.base.tables import word_table
from loopgates.circuits import circuits
from loopgates.circuits.circuits import (
    circuit_from, gate_names, is_circuit, make_circuit, readers, sources_of, table_of)
from loopgates.errors import InvalidCircuit, UnknownName
from tests.samples import (
    CROSS, Case, EMPTY, LUCKY, MIXED, OSC, TIE, chain, greatest, nested, odd_values, random_circuit, ring, word_like)

OR = (0, 1, 1, 1)
NO_CIRCUITS = [
    # Other kinds than tuples.
    [("a",), (("x", ("a", "x"), OR),)], (["a"], (("x", ("a", "x"), OR),)), (("a",), [("x", ("a", "x"), OR)]),
    (("a",), (["x", ("a", "x"), OR],)), (("a",), (("x", ["a", "x"], OR),)), (("a",), (("x", ("a", "x"), [0, 1, 1, 1]),)),
    (("a",), {"x": (("a", "x"), OR)}), ("a", ()), (("a",), ""), (None, None), (("a",), None), ((), {}), ({}, ()),
    # Another number of parts.
    ((),), (("a",),), (("a",), (), ()), (("a",), (("x", ("a", "x")),)), (("a",), (("x", ("a", "x"), OR, 0),)), (("a",), ((),)),
    # Names that are none, stand twice or in another order.
    (("A",), ()), (("",), ()), (("abcdefghi",), ()), ((1,), ()), ((None,), ()), ((("a",),), ()), ((["a"],), ()), ((True,), ()),
    (("b", "a"), ()), (("a", "a"), ()), ((), (("X", (), (0,)),)), ((), ((1, (), (0,)),)), ((), ((["x"], (), (0,)),)),
    ((), (("y", (), (0,)), ("x", (), (0,)))), ((), (("x", (), (0,)), ("x", (), (0,)))),
    ((), (("x", (), (0,)), ("x", (), (1,)))), (("x",), (("x", (), (0,)),)), (("a", "x"), (("w", (), (0,)), ("x", (), (1,)))),
    # Sources that are none, and tables with another number of wires.
    ((), (("x", ("a",), (0, 1)),)), (("a",), (("x", ("b",), (0, 1)),)), ((), (("x", (1,), (0, 1)),)),
    ((), (("x", (["x"],), (0, 1)),)), ((), (("x", (("x",),), (0, 1)),)), ((), (("x", (None,), (0, 1)),)),
    ((), (("x", ({},), (0, 1)),)), ((), (("x", "x", (0, 1)),)), ((), (("x", "xx", (0, 1, 1, 0)),)),
    (("a",), (("x", ("a",), OR),)), (("a",), (("x", ("a", "a", "a"), OR),)), (("a",), (("x", (), OR),)),
    (("a",), (("x", ("a",), (0,)),)), (("a",), (("x", (), ()),)), ((), (("x", (), (2,)),)), ((), (("x", (), (True,)),)),
    ((), (("x", ("x",), (0, True)),)), ((), (("x", ("x",), (False, 1)),)), (("a",), (("x", ("a", "x"), "or"),)),
    (("a",), (("x", ("a",) * 5, (0,) * 32),)), (("a",), (("x", ("a",) * 3, (0, 1, 1)),)), (("a",), (("x", ("a", "x"), None),)),
]


def named(many):
    """Return so many different names, ascending."""
    return [word_like(k) for k in range(many)]


class IsCircuit(Case):
    def test_constants(self):
        self.same([circuits.MAX_INPUTS, circuits.MAX_GATES], [12, 200])

    def test_circuits(self):
        for circuit in (TIE, OSC, CROSS, LUCKY, EMPTY, MIXED, (("a",), ()), ((), (("x", ("x",) * 4, (0, 1) * 8),)),
                        ((), (("x", (), (1,)),)), greatest(), chain(200), ring(200)):
            self.same(is_circuit(circuit), True, circuit)
        for seed in range(30):
            self.same(is_circuit(random_circuit(seed, seed % 5, seed, 4)), True)

    def test_what_is_no_circuit(self):
        for value in NO_CIRCUITS:
            self.same(is_circuit(value), False, value)

    def test_every_kind_of_value(self):
        for value in odd_values():
            wanted = value == (("a",), ())
            self.same(is_circuit(value), wanted, value)
            self.same(is_circuit((value, ())), value in ((), ("a",), ("a", "b"), ("x",)), value)
            self.same(is_circuit(((), value)), value == () and isinstance(value, tuple), value)
            self.same(is_circuit(((), (value,))), False, value)
            self.same(is_circuit(((), ((value, (), (0,)),))), value in ("a", "x", "and", "abcdefgh", "zzzzzzzz"), value)
            self.same(is_circuit(((), (("x", (value,), (0, 1)),))), value == "x", value)

    def test_inputs_up_to_twelve(self):
        names = named(13)
        self.same(is_circuit((tuple(names[:12]), ())), True)
        self.same(is_circuit((tuple(names), ())), False)

    def test_gates_up_to_200(self):
        gates = [(name, (), (0,)) for name in named(201)]
        self.same(is_circuit(((), tuple(gates[:200]))), True)
        self.same(is_circuit(((), tuple(gates))), False)

    def test_deep_values(self):
        for kind in ("tuple", "list", "dict"):
            for depth in range(13):
                self.same(is_circuit(nested(kind, depth)), False)


class MakeCircuit(Case):
    def test_examples(self):
        self.same(TIE, (("a",), (("x", ("a", "x"), (0, 1, 1, 1)),)))
        self.same(CROSS, (
            ("a", "c"),
            (("p", ("u",), (1, 0)), ("q", ("c", "p", "a"), (0, 0, 1, 1, 0, 1, 0, 1)),
             ("u", ("c", "a", "q"), (0, 0, 1, 1, 0, 1, 0, 1)))))

    def test_nothing(self):
        self.same([make_circuit(), circuit_from((), {}), make_circuit("a")], [((), ()), ((), ()), (("a",), ())])

    def test_any_order(self):
        wanted = (("a", "b"), (("x", ("b",), (1, 0)), ("y", ("x", "a"), (0, 0, 0, 1)), ("z", (), (1,))))
        self.same(make_circuit("b", "a", z=("one",), y=("and", "x", "a"), x=("not", "b")), wanted)
        self.same(circuit_from(("b", "a"), {"y": ("and", "x", "a"), "x": ("not", "b"), "z": ((1,),)}), wanted)
        dice = random.Random(1)
        circuit = greatest()
        for _ in range(5):
            inputs, gates = list(circuit[0]), list(circuit[1])
            dice.shuffle(inputs)
            dice.shuffle(gates)
            made = {name: (table,) + sources for name, sources, table in gates}
            self.same(circuit_from(tuple(inputs), made), circuit)
            self.same(make_circuit(*inputs, **made), circuit)

    def test_tables_and_words(self):
        words = {"and": (2, 3, 4), "or": (2, 3, 4), "xor": (2, 3, 4), "nand": (2, 3, 4), "nor": (2, 3, 4), "same": (2, 3, 4),
                 "not": (1,), "buffer": (1,), "zero": (0,), "one": (0,), "choose": (3,)}
        for word, possible in words.items():
            for wires in range(7):
                gate = (word,) + ("x", "a", "b", "x", "a", "b")[:wires]
                if wires in possible:
                    table = word_table(word, wires=wires)
                    wanted = (("a", "b"), (("x", gate[1:], table),))
                    self.same(make_circuit("a", "b", x=gate), wanted)
                    self.same(make_circuit("a", "b", x=(table,) + gate[1:]), wanted)
                else:
                    self.refuses(InvalidCircuit, make_circuit, "a", "b", x=gate)

    def test_names_that_are_keywords_or_parameters(self):
        wanted = ((), (("or", ("or",), (0, 1)),))
        self.same(circuit_from((), {"or": ("buffer", "or")}), wanted)
        self.same(make_circuit("self", inputs=("not", "gates"), gates=("one",)), (
            ("self",), (("gates", (), (1,)), ("inputs", ("gates",), (1, 0)))))
        self.same(circuit_from(("and",), {"circuit": ("and", "and", "and")}), (
            ("and",), (("circuit", ("and", "and"), (0, 0, 0, 1)),)))

    def test_one_source_by_several_wires(self):
        self.same(make_circuit(x=("xor", "x", "x", "x", "x"))[1][0][1], ("x", "x", "x", "x"))

    def test_limits(self):
        names = named(201)
        twelve = make_circuit(*names[:12])
        self.same(twelve, (tuple(names[:12]), ()))
        self.refuses(InvalidCircuit, make_circuit, *names[:13])
        self.refuses(InvalidCircuit, circuit_from, tuple(names[:13]), {})
        gates = {name: ("one",) for name in names}
        self.refuses(InvalidCircuit, make_circuit, **gates)
        self.refuses(InvalidCircuit, circuit_from, (), gates)
        del gates[names[77]]
        self.same(len(circuit_from((), gates)[1]), 200)

    def test_wrong_inputs(self):
        for value in odd_values():
            if value not in ("a", "x", "and", "abcdefgh", "zzzzzzzz"):
                self.refuses(InvalidCircuit, make_circuit, value)
                self.refuses(InvalidCircuit, make_circuit, "a", value)
                self.refuses(InvalidCircuit, make_circuit, value, "b")
            if not isinstance(value, tuple):
                self.refuses(InvalidCircuit, circuit_from, value, {})
            if not isinstance(value, dict):
                self.refuses(InvalidCircuit, circuit_from, (), value)
                self.refuses(InvalidCircuit, circuit_from, value, value)
        self.refuses(InvalidCircuit, make_circuit, "a", "a")
        self.refuses(InvalidCircuit, circuit_from, ("b", "a", "b"), {})
        self.refuses(InvalidCircuit, make_circuit, "x", x=("one",))
        self.refuses(InvalidCircuit, circuit_from, ["a"], {})
        self.refuses(InvalidCircuit, circuit_from, "ab", {})

    def test_wrong_gates(self):
        for value in odd_values():
            if value not in ((0,), (1,)) or value in ([0], {0: 0}):
                self.refuses(InvalidCircuit, circuit_from, (), {"x": value})
            self.refuses(InvalidCircuit, circuit_from, (), {"x": ("not", value, "x")})
            self.refuses(InvalidCircuit, circuit_from, (), {"x": (value, "x", "x", "y")})
            if value != "x":
                self.refuses(InvalidCircuit, circuit_from, (), {"x": ("not", value)})
                self.refuses(InvalidCircuit, circuit_from, (), {"x": ((0, 1), value)})
        for key in (None, 1, True, "", "X", "abcdefghi", (), ("x",), ("x", 0), -1):
            self.refuses(InvalidCircuit, circuit_from, (), {key: ("one",)})
            self.refuses(InvalidCircuit, circuit_from, (), {"a": ("one",), key: ("one",), "z": ("one",)})
        for gate in ((), ["one"], "one", ("or",), ("or", "x"), ("not",), ("one", "x"), ("choose", "x", "x"), ((),), ((0, 1),),
                     ((0,), "x"), ((0, 1), "x", "x"), ((0, 1, 1), "x", "x"), (("or", "x", "x"),), ([0, 1], "x"),
                     ((False, True), "x"), ((0,) * 32, *"xxxxx"), ("maybe", "x"), ("not", "y"), ("not", ("x",)),
                     ((0, 1), ["x"]), ("and", ("x", "x")), (None, "x"), (0,), (1, "x"), ("x",)):
            self.refuses(InvalidCircuit, circuit_from, (), {"x": gate})
        self.refuses(InvalidCircuit, make_circuit, X=("one",))
        self.refuses(InvalidCircuit, make_circuit, x=1)
        self.refuses(InvalidCircuit, make_circuit, abcdefghi=("one",))

    def test_arguments_stay(self):
        gates = {"y": ("or", "x", "y"), "x": ("not", "a")}
        self.pure(circuit_from, ("b", "a"), gates)
        self.same(list(gates), ["y", "x"])
        self.pure(make_circuit, "b", "a", **gates)
        self.pure(is_circuit, CROSS)


class AskedCircuits(Case):
    def test_gate_names(self):
        self.same([gate_names(TIE), gate_names(CROSS), gate_names(EMPTY), gate_names((("a",), ()))], [
            ("x",), ("p", "q", "u"), (), ()])
        self.same(gate_names(greatest()), tuple(named(200)))

    def test_sources_and_tables(self):
        for circuit in (TIE, CROSS, MIXED, greatest()):
            for name, sources, table in circuit[1]:
                self.same(sources_of(circuit, name), sources)
                self.same(table_of(circuit, name), table)
        self.same([sources_of(MIXED, "c"), table_of(MIXED, "c")], [(), (1,)])

    def test_readers(self):
        self.same([readers(CROSS, "c"), readers(CROSS, "a")], [(("q", 0), ("u", 0)), (("q", 2), ("u", 1))])
        self.same(readers(MIXED, "h"), (("h", 0), ("h", 1), ("j", 1)))
        self.same(readers(MIXED, "e"), (("f", 0), ("f", 2), ("g", 0)))
        self.same([readers(MIXED, "g"), readers(make_circuit("a"), "a")], [(), ()])
        circuit = greatest()
        for wanted in circuit[0] + gate_names(circuit)[::9]:
            found = [(name, k) for name, sources, _ in circuit[1] for k, source in enumerate(sources) if source == wanted]
            self.same(readers(circuit, wanted), tuple(found))

    def test_what_is_no_circuit(self):
        for value in NO_CIRCUITS + [value for value in odd_values() if value != (("a",), ())]:
            self.refuses(InvalidCircuit, gate_names, value)
            self.refuses(InvalidCircuit, sources_of, value, "x")
            self.refuses(InvalidCircuit, table_of, value, None)
            self.refuses(InvalidCircuit, readers, value, [])

    def test_what_is_no_gate(self):
        for value in odd_values() + ["c", "pq"]:
            if value != "x":
                self.same(self.refuses(UnknownName, sources_of, TIE, value).name, value)
                self.same(self.refuses(UnknownName, table_of, TIE, value).name, value)
            if value not in ("a", "x"):
                self.same(self.refuses(UnknownName, readers, TIE, value).name, value)

    def test_arguments_stay(self):
        self.pure(gate_names, CROSS)
        self.pure(readers, CROSS, "c")
        self.pure(sources_of, CROSS, "q")
        self.pure(table_of, CROSS, "q")


if __name__ == "__main__":
    unittest.main()
