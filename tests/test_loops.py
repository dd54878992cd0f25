"""Point 2.1: parts, levels and loops."""

import unittest

from loopgates.circuits.circuits import circuit_from, gate_names, make_circuit
from loopgates.circuits.loops import is_loop_free, is_loop_of, levels, loop_gates, parts, shortest_loop
from loopgates.errors import InvalidCircuit, InvalidOperation, UnknownName
from tests import oracle
from tests.samples import (
    CROSS, Case, EMPTY, LUCKY, MIXED, OSC, TIE, chain, greatest, odd_values, random_circuit, ring, small_circuits, word_like)


def loops_of(circuit, gate, most=9):
    """Return all loops of a gate, as tuples of wires, the short ones first."""
    sources = {name: read for name, read, _ in circuit[1]}
    found = []
    ways = [((gate, k),) for k in range(len(sources[gate]))]
    while ways:
        longer = []
        for way in ways:
            end = sources[way[-1][0]][way[-1][1]]
            if end == gate:
                found.append(way)
            elif end in sources and end not in [name for name, _ in way] and len(way) < most:
                longer.extend(way + ((end, k),) for k in range(len(sources[end])))
        ways = longer
    return found


class Parts(Case):
    def test_examples(self):
        self.same([parts(CROSS), loop_gates(TIE), is_loop_free(CROSS)], [(("p", "q", "u"),), ("x",), False])

    def test_mixed(self):
        self.same(parts(MIXED), (("c",), ("d",), ("e", "f"), ("g",), ("h",), ("i",), ("j",)))
        self.same(loop_gates(MIXED), ("d", "e", "f", "h"))

    def test_order_of_parts(self):
        circuit = make_circuit(a=("buffer", "z"), b=("not", "y"), c=("or", "b", "x"), x=("one",), y=("buffer", "y"), z=("not", "c"))
        self.same(parts(circuit), (("x",), ("y",), ("b",), ("c",), ("z",), ("a",)))
        circuit = make_circuit(
            a=("and", "d", "h"), b=("not", "b"), c=("and", "e", "b"), d=("not", "a"), e=("not", "c"), f=("not", "g"),
            g=("not", "f"), h=("not", "f"))
        self.same(parts(circuit), (("b",), ("c", "e"), ("f", "g"), ("h",), ("a", "d")))
        self.same(parts(circuit_from((), {"b": ("not", "a"), "a": ("not", "c"), "c": ("one",), "d": ("one",)})), (
            ("c",), ("a",), ("b",), ("d",)))

    def test_against_the_definition(self):
        circuits = small_circuits(40, gates=9) + [random_circuit(seed, 3, 12, 2) for seed in range(60)]
        for circuit in circuits:
            reached = oracle.read_by(circuit)
            self.same(parts(circuit), oracle.part_list(circuit), circuit)
            looping = tuple(name for name in gate_names(circuit) if name in reached[name])
            self.same(loop_gates(circuit), looping, circuit)
            self.same(is_loop_free(circuit), not looping, circuit)

    def test_nothing(self):
        for circuit in (EMPTY, make_circuit("a", "b")):
            self.same([parts(circuit), loop_gates(circuit), is_loop_free(circuit), levels(circuit)], [(), (), True, {}])

    def test_greatest(self):
        names = tuple(word_like(k) for k in range(200))
        self.same(parts(chain(200)), tuple((name,) for name in names))
        self.same(parts(chain(200, backwards=True)), tuple((name,) for name in names[::-1]))
        self.same(parts(ring(200)), (names,))
        self.same([loop_gates(ring(200)), loop_gates(chain(200))], [names, ()])
        self.same(parts(greatest()), oracle.part_list(greatest()))

    def test_wrong_arguments(self):
        for value in odd_values():
            if value != (("a",), ()):
                for call in (parts, loop_gates, is_loop_free, levels):
                    self.refuses(InvalidCircuit, call, value)

    def test_arguments_stay(self):
        self.pure(parts, MIXED)
        self.pure(loop_gates, MIXED)
        self.pure(is_loop_free, MIXED)


class Levels(Case):
    def test_levels(self):
        circuit = make_circuit(
            "a", "b", z=("one",), y=("and", "a", "b"), x=("or", "z", "a"), w=("not", "x"), v=("choose", "a", "w", "y"),
            u=("buffer", "a"), t=("xor", "v", "v"))
        self.same(levels(circuit), {"t": 5, "u": 1, "v": 4, "w": 3, "x": 2, "y": 1, "z": 1})
        self.same(levels(make_circuit(x=((0, 0), "y"), y=("one",))), {"x": 2, "y": 1})

    def test_chains(self):
        self.same(levels(chain(200)), {word_like(k): k + 1 for k in range(200)})
        self.same(levels(chain(200, backwards=True)), {word_like(k): 200 - k for k in range(200)})

    def test_against_the_definition(self):
        for seed in range(60):
            circuit = random_circuit(seed, 2, 6, 2)
            if is_loop_free(circuit):
                found = self.pure_dict(levels, circuit)
                self.same(list(found), list(gate_names(circuit)))
                for name, sources, _ in circuit[1]:
                    self.same(found[name], 1 + max([found.get(source, 0) for source in sources] or [0]))

    def test_loops(self):
        for circuit in (TIE, OSC, CROSS, LUCKY, MIXED, ring(200), make_circuit(x=((0, 0), "x"))):
            self.refuses(InvalidOperation, levels, circuit)


class Loops(Case):
    def test_examples(self):
        self.same(shortest_loop(CROSS, "p"), (("p", 0), ("u", 2), ("q", 1)))
        self.same(is_loop_of(LUCKY, "y", (("y", 0), ("n", 0))), True)

    def test_shortest_loops(self):
        self.same([shortest_loop(TIE, "x"), shortest_loop(LUCKY, "y"), shortest_loop(LUCKY, "n")], [
            (("x", 1),), (("y", 1),), (("n", 0), ("y", 0))])
        self.same([shortest_loop(MIXED, name) for name in "cgij"], [None] * 4)
        circuit = make_circuit(a=("or", "b", "c"), b=("not", "d"), c=("not", "a"), d=("not", "a"))
        self.same(shortest_loop(circuit, "a"), (("a", 1), ("c", 0)))
        self.same(shortest_loop(circuit, "d"), (("d", 0), ("a", 0), ("b", 0)))

    def test_a_gate_before_a_loop_has_none(self):
        circuit = make_circuit(x=("and", "y", "z"), y=("not", "y"), z=("not", "y"))
        self.same([shortest_loop(circuit, "x"), shortest_loop(circuit, "z")], [None, None])

    def test_against_all_loops(self):
        for circuit in small_circuits(40, gates=6):
            for gate in gate_names(circuit):
                found = loops_of(circuit, gate)
                got = shortest_loop(circuit, gate)
                if found:
                    self.assertIn(got, found)
                    self.same(len(got), len(found[0]))
                else:
                    self.same(got, None)
                for other in gate_names(circuit):
                    for loop in loops_of(circuit, other)[:30]:
                        self.same(is_loop_of(circuit, gate, loop), gate == other)

    def test_long_loops(self):
        circuit = ring(200)
        first = word_like(0)
        loop = shortest_loop(circuit, first)
        self.same(loop, ((first, 0),) + tuple((word_like(k), 0) for k in range(199, 0, -1)))
        self.same([is_loop_of(circuit, first, loop), is_loop_of(circuit, word_like(1), loop)], [True, False])
        self.same(is_loop_of(circuit, first, loop[:-1]), False)
        self.same(is_loop_of(circuit, first, loop + loop), False)
        circuit = greatest()
        for gate in gate_names(circuit)[::10]:
            loop = shortest_loop(circuit, gate)
            self.same(is_loop_of(circuit, gate, loop), loop is not None)
        self.same(shortest_loop(chain(200), word_like(150)), None)

    def test_what_is_no_loop(self):
        circuit = make_circuit("a", x=("or", "y", "x", "a"), y=("and", "x", "z"), z=("not", "x"))
        good = [(("x", 1),), (("x", 0), ("y", 0)), (("x", 0), ("y", 1), ("z", 0))]
        for loop in good:
            self.same(is_loop_of(circuit, "x", loop), True, loop)
        for value in (
                (), (("x", 0),), (("x", 2),), (("x", 3),), (("x", -1),), (("x", 1), ("x", 1)), (("x", 0), ("y", 0), ("x", 1)),
                (("x", 0), ("y", 0), ("x", 0), ("y", 0)), (("y", 0), ("x", 0)), (("x", 0), ("z", 0)), (("z", 0), ("x", 0), ("y", 1)),
                (("x", 0), ("y", 1)), (("y", 0),), (("x", 0), ("y", 2)), (("x", 0), ("y", -1)), (("a", 0),), (("x", 0), ("a", 0)),
                (("x", 1), ("y", 0)), (("x", 0), ("y", 1), ("x", 0)), (("q", 0),), (("x", 10 ** 39),),
                [("x", 1)], (["x", 1],), (("x", True),), (("x", "1"),), (("x", None),), (("x",),), (("x", 1, 0),), ("x", 1),
                (("x", False), ("y", 0)), (("x", 0), ("y", False)), ((["x"], 1),), (("x", [1]),), "x", {("x", 1): 1},
                {0: ("x", 1)}, ((("x", 1),),), None, 0, True):
            self.same(is_loop_of(circuit, "x", value), False, value)
        for value in odd_values():
            self.same(is_loop_of(circuit, "y", value), False, value)
            self.same(is_loop_of(TIE, "x", (value,)), repr(value) == repr(("x", 1)), value)

    def test_wrong_arguments(self):
        for value in odd_values():
            if value != (("a",), ()):
                self.refuses(InvalidCircuit, shortest_loop, value, "x")
                self.refuses(InvalidCircuit, is_loop_of, value, None, ())
            if value != "x":
                self.same(self.refuses(UnknownName, shortest_loop, TIE, value).name, value)
                self.same(self.refuses(UnknownName, is_loop_of, TIE, value, (("x", 1),)).name, value)

    def test_arguments_stay(self):
        self.pure(shortest_loop, CROSS, "p")
        self.pure(is_loop_of, CROSS, "p", (("p", 0), ("u", 2), ("q", 1)))


if __name__ == "__main__":
    unittest.main()
