"""Points 0.15, 6.2 and 6.3: loops in which all gates move that are not derived, and settling papers."""

import unittest

from loopgates.circuits.circuits import circuit_from, make_circuit
from loopgates.errors import InvalidCircuit, InvalidSetting, InvalidValues, UnknownName
from loopgates.runs.fair import flipping_gates, is_fair_loop
from loopgates.runs.flips import flipping_loop, is_settling_paper, settling_paper
from loopgates.runs.states import nodes, stepped_by
from loopgates.settling.causes import steady_values
from loopgates.settling.derivations import derivation, derive_all
from loopgates.settling.known import known_values
from tests import oracle
from tests.samples import (
    CROSS, Case, EMPTY, LUCKY, MIXED, OSC, TIE, all_rows, chain, greatest, odd_values, random_circuit, ring, settings_of,
    small_circuits, word_like)


class Flipping(Case):
    def check(self, circuit, setting, values, loop):
        """Check a loop against 6.2: fair, short, exactly the gates with 2 move, and the others keep their bits."""
        unknown = tuple(name for name in values if values[name] == 2)
        if not unknown:
            self.same(loop, None)
            return
        state, steps = loop
        self.assertTrue(is_fair_loop(circuit, setting, loop), (circuit, setting, values))
        self.assertIn(len(steps), (2, 4))
        self.same(flipping_gates(circuit, setting, loop), unknown)
        for step in steps + ((),):
            for at, name in enumerate(values):
                if values[name] != 2:
                    self.same(state[0][at], values[name])
            state = stepped_by(circuit, setting, state, step) if step else state

    def test_known_values(self):
        for circuit in small_circuits(80, 2, 5) + [MIXED, make_circuit("a")] + [random_circuit(k, 2, 6, 4) for k in range(40)]:
            for setting in settings_of(circuit, (0, 1)):
                loop = flipping_loop(circuit, setting)
                self.check(circuit, setting, known_values(circuit, setting), loop)
                self.same(flipping_loop(circuit, setting, values=None), loop)

    def test_all_steady_values(self):
        for circuit in small_circuits(60, 2, 5) + [random_circuit(k, 1, 4, 4) for k in range(30)]:
            for setting in settings_of(circuit, (0, 1)):
                for values in oracle.steady(circuit, setting):
                    self.check(circuit, setting, values, flipping_loop(circuit, setting, values=values))

    def test_values_that_are_not_steady(self):
        for circuit in (TIE, OSC, LUCKY, CROSS):
            for setting in settings_of(circuit, (0, 1)):
                names = [gate[0] for gate in circuit[1]]
                for row in all_rows((0, 1, 2), len(names)):
                    values = dict(zip(names, row))
                    if values not in oracle.steady(circuit, setting):
                        self.refuses(InvalidValues, flipping_loop, circuit, setting, values=values)
        for value in odd_values():
            if value is not None and repr(value) != "{'x': 2}":
                self.refuses(InvalidValues, flipping_loop, OSC, {"a": 1}, values=value)
        for value in ({"x": 2, "a": 1}, {"x": True}, {"X": 2}, {}, [("x", 2)], {"y": 2}, (2,)):
            self.refuses(InvalidValues, flipping_loop, OSC, {"a": 1}, values=value)
        self.same(flipping_loop(LUCKY, {}, values={"y": 1, "n": 0}), None)
        self.same(flipping_loop(EMPTY, {}, values={}), None)

    def test_all_gates_are_derived(self):
        self.same([flipping_loop(TIE, {"a": 1}), flipping_loop(OSC, {"a": 0}), flipping_loop(EMPTY, {})], [None] * 3)
        self.same([flipping_loop(CROSS, setting) for setting in settings_of(CROSS, (0, 1))], [None] * 4)
        self.same(flipping_loop(make_circuit("a"), {"a": 1}), None)

    def test_gates_that_read_one_source_by_several_wires(self):
        circuit = make_circuit("a", x=("xor", "x", "x"), y=("and", "x", "y", "y"), z=("choose", "z", "z", "z"))
        for setting in settings_of(circuit, (0, 1)):
            self.check(circuit, setting, known_values(circuit, setting), flipping_loop(circuit, setting))

    def test_two_steps_are_enough_where_no_wire_is_late(self):
        circuit = make_circuit(x=("buffer", "x"))
        self.same(len(flipping_loop(circuit, {})[1]), 2)
        self.same(len(flipping_loop(OSC, {"a": 1})[1]), 4)

    def test_all_tables_of_a_gate_that_reads_itself(self):
        for wires in (1, 2, 3):
            for table in all_rows((0, 1), 2 ** wires):
                circuit = make_circuit("a", x=(table, *["x", "x", "a"][:wires]), y=("and", "x", "a"))
                for setting in settings_of(circuit, (0, 1)):
                    self.check(circuit, setting, known_values(circuit, setting), flipping_loop(circuit, setting))

    def test_sixty_gates_and_more(self):
        circuits = [
            circuit_from((), {word_like(k): ("not", word_like((k + 1) % 60)) for k in range(60)}), ring(60), ring(200),
            random_circuit(3, 3, 60, 4), random_circuit(4, 0, 60, 3), random_circuit(8, 2, 200, 4), greatest(),
            circuit_from((), {word_like(k): ("xor", word_like((k + 1) % 60), word_like((k + 7) % 60)) for k in range(60)})]
        for circuit in circuits:
            for bit in (0, 1):
                setting = {name: bit for name in circuit[0]}
                self.check(circuit, setting, known_values(circuit, setting), flipping_loop(circuit, setting))


class Papers(Case):
    def test_examples(self):
        self.same(
            [settling_paper(TIE, {"a": 1}, "x"), settling_paper(LUCKY, {}, "y")[0]],
            [("settles", 1, (("x", 1, (0,)),)), "flips"])

    def test_one_kind_for_each_gate(self):
        for circuit in small_circuits(60, 2, 5) + [MIXED]:
            for setting in settings_of(circuit, (0, 1)):
                known = known_values(circuit, setting)
                flip = ("flips", flipping_loop(circuit, setting))
                for gate, value in known.items():
                    paper = settling_paper(circuit, setting, gate)
                    self.same(is_settling_paper(circuit, setting, gate, paper), True)
                    self.same(paper[0], "flips" if value == 2 else "settles")
                    self.same(is_settling_paper(circuit, setting, gate, flip), value == 2)
                    if value != 2:
                        self.same(paper[1], value)
                        lines = derivation(circuit, setting, gate)
                        self.same(is_settling_paper(circuit, setting, gate, ("settles", value, lines)), True)
                        for bit in (1 - value, bool(value), None, 2, str(value)):
                            self.same(is_settling_paper(circuit, setting, gate, ("settles", bit, lines)), False)

    def test_wrong_in_one_part(self):
        lines = derive_all(CROSS, {"a": 0, "c": 1})
        setting = {"a": 0, "c": 1}
        self.same(lines[-1][:2], ("p", 1))
        self.same(is_settling_paper(CROSS, setting, "p", ("settles", 1, lines)), True)
        for gate, paper in (
                ("u", ("settles", 1, lines)), ("u", ("settles", 0, lines)), ("q", ("settles", 0, lines)), ("p", ("settles", 0, lines)),
                ("p", ("settles", 1, lines[1:])), ("p", ("settles", 1, lines[::-1])), ("p", ("settles", 1, lines + lines[-1:])),
                ("p", ("settles", 1, ())), ("p", ("settles", 1, list(lines))), ("p", ["settles", 1, lines]), ("p", ("settles", 1)),
                ("p", ("settles", 1, lines, 0)), ("p", ("derived", 1, lines)), ("p", ("flips", 1, lines)), ("p", ("flips", lines)),
                ("p", ("settles", lines)), ("p", ("settles", True, lines)), ("p", (1, "settles", lines)), ("p", ("settles", lines, 1)),
                ("p", ("settles", 1, lines[:-1] + (("p", 0, (0,)),))), ("p", ("settles", 0, lines[:-1] + (("p", 0, (0,)),)))):
            self.same(is_settling_paper(CROSS, setting, gate, paper), False, paper)
        self.same(is_settling_paper(CROSS, {"a": 1, "c": 1}, "p", ("settles", 1, lines)), False)
        self.same(is_settling_paper(CROSS, setting, "u", ("settles", 0, lines[:2])), True)

    def test_loops_that_are_none(self):
        state, steps = flipping_loop(OSC, {"a": 1})
        self.same(is_settling_paper(OSC, {"a": 1}, "x", ("flips", (state, steps * 3))), True)
        for loop in (
                (state, steps[:3]), (state, ()), (state, steps[::-1]), [state, steps], (state, list(steps)), (state,), state, None, (),
                (((1,), ((1, 1),)), steps[1:] + steps[:1]), (state, steps, ())):
            self.same(is_settling_paper(OSC, {"a": 1}, "x", ("flips", loop)), False, loop)
        for paper in (("flips",), ("flip", (state, steps)), ("settles", (state, steps)), ["flips", (state, steps)],
                      ("flips", (state, steps), ()), (("flips", (state, steps)),), ("flips", 1, (state, steps))):
            self.same(is_settling_paper(OSC, {"a": 1}, "x", paper), False, paper)
        self.same(is_settling_paper(OSC, {"a": 0}, "x", ("flips", (state, steps))), False)

    def test_a_loop_in_which_the_gate_does_not_move(self):
        circuit = make_circuit("a", w=("buffer", "a"), x=("not", "x"))
        loop = flipping_loop(circuit, {"a": 1})
        self.same([is_settling_paper(circuit, {"a": 1}, gate, ("flips", loop)) for gate in "wx"], [False, True])
        circuit = make_circuit(x=("not", "x"), y=("not", "y"))
        state = ((0, 0), ((0,), (0,)))
        around = ((("x", -1),), (("x", 0),), (("x", -1),), (("x", 0),))
        self.same([is_settling_paper(circuit, {}, gate, ("flips", (state, around))) for gate in "xy"], [False, False])
        both = tuple((("x", k), ("y", k)) for k in (-1, 0, -1, 0))
        self.same([is_settling_paper(circuit, {}, gate, ("flips", (state, both))) for gate in "xy"], [True, True])

    def test_values_of_every_kind(self):
        for value in odd_values():
            self.same(is_settling_paper(TIE, {"a": 1}, "x", value), False, value)
            self.same(is_settling_paper(TIE, {"a": 1}, "x", (value, 1, (("x", 1, (0,)),))), False, value)
            self.same(is_settling_paper(TIE, {"a": 1}, "x", ("settles", value, (("x", 1, (0,)),))), value == 1 and value is not True)
            self.same(is_settling_paper(TIE, {"a": 1}, "x", ("settles", 1, value)), repr(value) == "(('x', 1, (0,)),)")
            self.same(is_settling_paper(OSC, {"a": 1}, "x", ("flips", value)), False, value)

    def test_great_circuits(self):
        for circuit in (chain(200), ring(200), greatest()):
            setting = {name: 1 for name in circuit[0]}
            for gate in [gate[0] for gate in circuit[1]][::67]:
                self.same(is_settling_paper(circuit, setting, gate, settling_paper(circuit, setting, gate)), True)


class Errors(Case):
    def test_order(self):
        calls = (
            lambda circuit, setting, gate: flipping_loop(circuit, setting, values=5), settling_paper,
            lambda circuit, setting, gate: is_settling_paper(circuit, setting, gate, None))
        for call in calls:
            for value in odd_values():
                if value != (("a",), ()):
                    self.refuses(InvalidCircuit, call, value, None, None)
                if repr(value) not in ("{'a': 0}", "{'a': 1}"):
                    self.refuses(InvalidSetting, call, OSC, value, None)
            self.refuses(InvalidSetting, call, OSC, {"a": 2}, None)
        for call in calls[1:]:
            for value in odd_values() + ["a", ("x", -1)]:
                if value != "x":
                    self.same(self.refuses(UnknownName, call, OSC, {"a": 1}, value).name, value)

    def test_arguments_stay(self):
        setting, values = {"c": 1, "a": 0}, {"u": 0, "p": 1, "q": 0}
        self.same(self.pure(flipping_loop, CROSS, setting, values=values), None)
        self.pure(flipping_loop, OSC, {"a": 1}, values={"x": 2})
        self.pure(settling_paper, CROSS, setting, "p")
        self.pure(is_settling_paper, CROSS, setting, "p", settling_paper(CROSS, setting, "p"))
        for circuit in (LUCKY, MIXED):
            setting = {name: 0 for name in circuit[0]}
            self.same(len(nodes(circuit)) > 0, True)
            for values in list(steady_values(circuit, setting)) if circuit == LUCKY else [known_values(circuit, setting)]:
                self.pure(flipping_loop, circuit, setting, values=values)


if __name__ == "__main__":
    unittest.main()
