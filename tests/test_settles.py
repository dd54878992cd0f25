"""Point 9.1: formulas of the settings at which gates settle."""

import unittest

from loopgates.circuits.circuits import circuit_from, gate_names, make_circuit
from loopgates.errors import InvalidCircuit, InvalidNumber, UnknownName
from loopgates.formulas.formulas import Formula
from loopgates.formulas.settles import first_unsettled, settled_formula, settles_formula, settles_formulas
from loopgates.settling.known import known_values
from tests import oracle
from tests.samples import (
    CROSS, Case, EMPTY, LUCKY, MIXED, OSC, TIE, chain, greatest, odd_values, random_circuit, ring, settings_of, small_circuits,
    word_like)


class Settles(Case):
    def check(self, circuit, settings=None):
        """Check all four functions against the known values at settings of the circuit."""
        found = settles_formulas(circuit)
        names = gate_names(circuit)
        self.same(list(found), [(name, bit) for name in names for bit in (0, 1)])
        first = None
        every = settings_of(circuit, (0, 1))
        settled = settled_formula(circuit)
        for setting in every if settings is None else settings:
            known = known_values(circuit, setting)
            for (gate, bit), formula in found.items():
                self.assertEqual(formula(setting), int(known[gate] == bit), (circuit, setting, gate))
            unknown = [name for name in names if known[name] == 2]
            self.assertEqual(settled(setting), int(not unknown))
            if unknown and first is None:
                first = (setting, unknown[0])
        if settings is None:
            self.same(first_unsettled(circuit), first)
        return found

    def test_examples(self):
        self.same(
            [str(settles_formula(TIE, "x", 1)), str(settles_formula(TIE, "x", 0)), first_unsettled(CROSS), first_unsettled(OSC, "x")],
            ["a ? 1 : 0", "0", None, ({"a": 1}, "x")])

    def test_small_circuits(self):
        for circuit in small_circuits(80, 3, 5) + [MIXED] + [random_circuit(seed, 4, 6, 4) for seed in range(25)]:
            found = self.check(circuit)
            for (gate, bit), formula in found.items():
                self.assertTrue(settles_formula(circuit, gate, bit) == formula)

    def test_known_values_are_those_of_the_definition(self):
        for circuit in (CROSS, MIXED, LUCKY):
            for setting in settings_of(circuit, (0, 1)):
                for gate, value in oracle.known(circuit, setting).items():
                    self.same([settles_formula(circuit, gate, bit)(setting) for bit in (0, 1)], [int(value == 0), int(value == 1)])

    def test_gates_that_read_one_source_by_several_wires(self):
        circuit = make_circuit("a", "b", x=("xor", "x", "x"), y=("and", "a", "y", "y"), z=("xor", "a", "a"), w=("or", "z", "b", "w"))
        self.check(circuit)
        self.same([str(settles_formula(circuit, gate, 0)) for gate in "wxyz"], ["0", "0", "a ? 0 : 1", "1"])
        self.same(str(settles_formula(circuit, "w", 1)), "b ? 1 : 0")

    def test_sixty_gates_in_a_row(self):
        names = [word_like(k) for k in range(60)]
        for order in (names, names[::-1]):
            made = {name: (("xor", "and", "or", "nand")[k % 4], order[k - 1] if k else "a", "abcdef"[k % 6]) for k, name in enumerate(order)}
            self.check(circuit_from(tuple("abcdef"), made))
            made[order[0]] = ("or", order[59], "b")
            self.check(circuit_from(tuple("abcdef"), made))
            made = {name: ("buffer", order[k - 1] if k else "a") for k, name in enumerate(order)}
            self.same(sorted({str(formula) for formula in self.check(circuit_from(("a",), made)).values()}), ["a ? 0 : 1", "a ? 1 : 0"])

    def test_greatest_sizes(self):
        circuit = greatest()
        some = [{name: k >> at & 1 for at, name in enumerate(circuit[0])} for k in range(0, 4096, 97)]
        found = self.check(circuit, some)
        one = gate_names(circuit)[150]
        self.assertTrue(settles_formula(circuit, one, 1) == found[one, 1])
        self.check(chain(200))
        self.check(ring(200))
        twelve = tuple("abcdefghijkl")
        odd = circuit_from(twelve, {word_like(k): ("xor", name, word_like(k - 1)) if k else ("buffer", name) for k, name in enumerate(twelve)})
        self.same([len(settles_formula(odd, word_like(11), 1)), settles_formula(odd, word_like(11), 1).names], [23, twelve])

    def test_no_gates(self):
        for circuit in (EMPTY, make_circuit("a", "b")):
            self.same([settles_formulas(circuit), first_unsettled(circuit), str(settled_formula(circuit))], [{}, None, "1"])


class SomeGates(Case):
    def test_settled_formula_of_some_gates(self):
        for circuit in small_circuits(40, 2, 4):
            names = gate_names(circuit)
            for some in (names[:1], names[:2], names[::-1], names[:1] * 3, names[1:] + names[1:]):
                asked = some or names
                wanted = [int(all(known_values(circuit, setting)[name] != 2 for name in asked)) for setting in settings_of(circuit, (0, 1))]
                self.same([settled_formula(circuit, *some)(setting) for setting in settings_of(circuit, (0, 1))], wanted)
                found = first_unsettled(circuit, *some)
                if all(wanted):
                    self.same(found, None)
                else:
                    setting = settings_of(circuit, (0, 1))[wanted.index(0)]
                    self.same(found, (setting, min(name for name in asked if known_values(circuit, setting)[name] == 2)))

    def test_the_least_gate_at_the_first_setting(self):
        circuit = make_circuit("a", "b", x=("or", "a", "x"), y=("and", "b", "y"), z=("nor", "b", "z"))
        self.same([first_unsettled(circuit), first_unsettled(circuit, "z", "y"), first_unsettled(circuit, "y", "y")], [
            ({"a": 0, "b": 0}, "x"), ({"a": 0, "b": 0}, "z"), ({"a": 0, "b": 1}, "y")])
        self.same(first_unsettled(make_circuit("a", x=("one",), y=("not", "a"))), None)
        self.same(str(settled_formula(circuit, "x", "y")), "a ? (b ? 0 : 1) : 0")

    def test_changed_results(self):
        setting, gate = first_unsettled(OSC)
        setting.clear()
        self.same([first_unsettled(OSC), gate], [({"a": 1}, "x"), "x"])
        found = self.pure(lambda: {pair: str(formula) for pair, formula in settles_formulas(CROSS).items()})
        settles_formulas(CROSS).clear()
        self.same({pair: str(formula) for pair, formula in settles_formulas(CROSS).items()}, found)
        self.assertTrue(isinstance(settles_formulas(TIE)["x", 1], Formula))


class Errors(Case):
    def test_circuits(self):
        for value in odd_values():
            if value != (("a",), ()):
                self.refuses(InvalidCircuit, settles_formula, value, None, None)
                self.refuses(InvalidCircuit, settles_formulas, value)
                self.refuses(InvalidCircuit, settled_formula, value, None)
                self.refuses(InvalidCircuit, first_unsettled, value, None)

    def test_gates_and_bits(self):
        for value in odd_values() + ["a", "y", ("x", 0)]:
            if value != "x":
                self.same(self.refuses(UnknownName, settles_formula, TIE, value, 5).name, value)
                self.same(self.refuses(UnknownName, settled_formula, TIE, "x", value, 7).name, value)
                self.same(self.refuses(UnknownName, first_unsettled, TIE, value, "x").name, value)
            if not (type(value) is int and value in (0, 1)):
                self.same(self.refuses(InvalidNumber, settles_formula, TIE, "x", value).value, value)


if __name__ == "__main__":
    unittest.main()
