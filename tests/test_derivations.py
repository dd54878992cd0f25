"""Point 4.1: derivations, found and judged."""

import unittest

from loopgates.circuits.circuits import gate_names, make_circuit
from loopgates.errors import InvalidCircuit, InvalidSetting, InvalidValues, UnknownName
from loopgates.settling.derivations import derivation, derive_all, is_derivation, needed_lines
from loopgates.settling.known import known_values, ranks
from tests import oracle
from tests.samples import (
    CROSS, Case, EMPTY, LUCKY, MIXED, OSC, TIE, all_rows, chain, greatest, odd_values, random_circuit, ring, settings_of,
    small_circuits, word_like)

# Two ways to y, one of them by x; z needs both; v and w need nothing of these; loop never settles.
WAYS = make_circuit(
    "a", "b", v=("one",), w=("not", "b"), x=("not", "a"), y=("or", "x", "a", "w", "y"), z=("and", "y", "x"),
    loop=("xor", "loop", "a"))
LINES = (("x", 1, (0,)), ("w", 0, (0,)), ("y", 1, (0,)), ("z", 1, (0, 1)))
AT = {"b": 1, "a": 0}


def judged(circuit, setting, gate, value):
    """Return what the document says of a value: whether it is a derivation of the gate."""
    if type(value) is not tuple or not value:
        return False
    gates = {name: (sources, table) for name, sources, table in circuit[1]}
    bits = {name: bit for name, bit in setting.items() if bit != 2}
    for line in value:
        if type(line) is not tuple or len(line) != 3 or type(line[0]) is not str or line[0] not in gates:
            return False
        name, bit, wires = line
        sources, table = gates[name]
        if type(wires) is not tuple or not all(type(wire) is int and 0 <= wire < len(sources) for wire in wires):
            return False
        if name in bits or sorted(set(wires)) != list(wires) or not all(sources[wire] in bits for wire in wires):
            return False
        row = [bits[source] if k in wires else 2 for k, source in enumerate(sources)]
        if type(bit) is not int or bit == 2 or oracle.forced(table, row) != bit:
            return False
        bits[name] = bit
    return value[-1][0] == gate


class Derivations(Case):
    def test_examples(self):
        self.same(
            [derivation(TIE, {"a": 1}, "x"), derivation(TIE, {"a": 0}, "x"), derive_all(CROSS, {"a": 0, "c": 1})],
            [(("x", 1, (0,)),), None, (("q", 0, (0, 2)), ("u", 0, (0, 2)), ("p", 1, (0,)))])

    def test_every_derived_gate_has_one(self):
        for circuit in small_circuits(60) + [MIXED, WAYS]:
            for setting in settings_of(circuit, (0, 1, 2)):
                known = known_values(circuit, setting)
                for gate in gate_names(circuit):
                    found = self.pure(derivation, circuit, setting, gate)
                    if known[gate] == 2:
                        self.same(found, None)
                    else:
                        self.same(judged(circuit, setting, gate, found), True, found)
                        self.same(is_derivation(circuit, setting, gate, found), True, found)
                        self.same(found[-1][:2], (gate, known[gate]))

    def test_derive_all_against_the_definition(self):
        for circuit in small_circuits(60) + [MIXED, WAYS] + [random_circuit(seed, 2, 5, 4) for seed in range(200, 240)]:
            for setting in settings_of(circuit, (0, 1, 2)):
                known = known_values(circuit, setting)
                order = ranks(circuit, setting)
                wanted = tuple(
                    (gate, known[gate], oracle.best_wires(circuit, setting, gate))
                    for gate in sorted(order, key=lambda gate: (order[gate], gate)))
                self.same(derive_all(circuit, setting), wanted, (circuit, setting))

    def test_fewest_and_least_wires(self):
        self.same(derive_all(make_circuit("a", "b", x=("or", "b", "a", "a", "b")), {"a": 1, "b": 0}), (("x", 1, (1,)),))
        self.same(derive_all(make_circuit("a", "b", x=("or", "b", "a", "a", "b")), {"a": 1, "b": 1}), (("x", 1, (0,)),))
        self.same(derive_all(make_circuit("a", "b", x=("choose", "b", "a", "a")), {"a": 1, "b": 2}), (("x", 1, (1, 2)),))
        self.same(derive_all(make_circuit("a", "b", x=("choose", "b", "a", "a")), {"a": 1, "b": 1}), (("x", 1, (0, 2)),))
        self.same(derive_all(make_circuit("a", x=((1, 1), "a"), y=("one",)), {"a": 2}), (("x", 1, ()), ("y", 1, ())))
        # The wire from y would be less, but y has no lesser rank than x.
        circuit = make_circuit("a", x=("or", "y", "a"), y=("buffer", "a"))
        self.same(derive_all(circuit, {"a": 1}), (("x", 1, (1,)), ("y", 1, (0,))))
        circuit = make_circuit("a", w=("buffer", "y"), x=("or", "w", "y"), y=("buffer", "a"))
        self.same(derive_all(circuit, {"a": 1}), (("y", 1, (0,)), ("w", 1, (0,)), ("x", 1, (1,))))

    def test_nothing_derived(self):
        self.same([derive_all(EMPTY, {}), derive_all(LUCKY, {}), derive_all(ring(200), {}), derive_all(OSC, {"a": 1})], [()] * 4)

    def test_greatest(self):
        circuit = chain(200)
        last = word_like(199)
        whole = tuple((word_like(k), k % 2, (0,)) for k in range(200))
        self.same([derivation(circuit, {"a": 1}, last), derive_all(circuit, {"a": 1})], [whole, whole])
        self.same(needed_lines(circuit, {"a": 1}, whole), whole)
        self.same(is_derivation(circuit, {"a": 1}, last, whole[:100] + whole[101:]), False)
        self.same(derivation(circuit, {"a": 2}, last), None)
        backwards = chain(200, backwards=True)
        self.same(derive_all(backwards, {"a": 1}), tuple((word_like(199 - k), k % 2, (0,)) for k in range(200)))
        circuit = greatest()
        for bit in (0, 1):
            setting = {name: bit for name in circuit[0]}
            known = known_values(circuit, setting)
            lines = derive_all(circuit, setting)
            self.same(sorted(line[0] for line in lines), [name for name in known if known[name] != 2])
            if lines:
                self.same(is_derivation(circuit, setting, lines[-1][0], lines), True)
            for gate in gate_names(circuit)[::20]:
                found = derivation(circuit, setting, gate)
                self.same(found is None, known[gate] == 2)
                self.same(is_derivation(circuit, setting, gate, found), found is not None)


class Judged(Case):
    def test_right_ones(self):
        for gate, value in (
                ("z", LINES), ("x", LINES[:1]), ("w", LINES[:2]), ("y", LINES[:3]),
                # Another order, more wires, lines that nobody needs, and lines that need no wires.
                ("z", (LINES[1], LINES[0], LINES[2], LINES[3])),
                ("z", (LINES[0], LINES[2], LINES[3])),
                ("y", (LINES[0], ("y", 1, (0, 1)))), ("y", (LINES[1], LINES[0], ("y", 1, (0, 1, 2)))),
                ("y", (LINES[0], LINES[1], ("y", 1, (0, 2)))),
                ("v", (LINES[0], LINES[1], ("v", 1, ()))), ("v", (("v", 1, ()),)),
                ("w", (("v", 1, ()), LINES[0], LINES[1]))):
            self.same(is_derivation(WAYS, AT, gate, value), True, value)
            self.same(judged(WAYS, AT, gate, value), True, value)

    def test_wrong_ones(self):
        x, w, y, z = LINES
        for value in (
                (), (z,), (x, z), (y, z), (x, y), (x, y, z, w), (x, y, w), (x, x, y, z), (x, y, x, z), (x, y, z, z), (z, x, y),
                (y, x, z), (x, z, y), (x, y, ("z", 0, (0, 1))), (x, y, ("z", 2, (0, 1))), (x, y, ("z", 1, (0,))),
                (x, y, ("z", 1, ())), (x, y, ("z", 1, (1, 0))), (x, y, ("z", 1, (0, 0, 1))), (x, y, ("z", 1, (0, 1, 2))),
                (x, y, ("z", 1, (-1, 0))), (x, y, ("z", True, (0, 1))), (x, y, ("z", 1, (False, True))),
                (x, y, ("z", 1, (0, True))), (x, y, ("z", 1, [0, 1])), (x, y, ["z", 1, (0, 1)]), [x, y, z],
                (list(x), y, z), (x, y, ("z", 1, "01")), (x, y, ("z", 1)), (x, y, ("z", 1, (0, 1), ())), (x, y, ("z", "1", (0, 1))),
                (("x", 0, (0,)), y, z), (("x", True, (0,)), y, z), (("x", 1, (False,)), y, z), (("x", 1, ()), y, z),
                (("x", 1, (1,)), y, z), (x, ("y", 1, (1,)), z), (x, ("y", 1, (2,)), z), (x, ("y", 1, (0, 3)), z),
                (x, ("y", 1, (3,)), z), (x, ("y", 0, (0,)), z), (x, ("a", 0, ()), y, z), (x, ("q", 1, ()), y, z),
                (x, ("loop", 0, (1,)), y, z), (x, None, y, z), (x, (), y, z), (x, "y", z), (([], 1, ()), x, y, z),
                ((None, 1, ()), x, y, z), (x, y, (("z",), 1, (0, 1))), (x, y, ("z", 1, (0, None))), (x, y, ("z", 1, (0, [1]))),
                (x, y, ("z", None, (0, 1))), (x, y, ("z", [1], (0, 1))), (x, y, ("z", 1, {0: 0, 1: 1})), {x: y}, (x, y, z, ()),
                "xyz", None, 0, True, {"z": 1}, (x, y, ("z", 10 ** 39, (0, 1))), (x, y, ("z", 1, (0, 10 ** 39)))):
            self.same(is_derivation(WAYS, AT, "z", value), False, value)
            self.same(judged(WAYS, AT, "z", value), False, value)

    def test_wires_below_zero_are_none(self):
        circuit = make_circuit("a", x=("or", "a", "a"), y=((1, 1), "a"))
        for line, wanted in ((("x", 1, (0,)), True), (("x", 1, (-1, 0)), False), (("x", 1, (-1,)), False), (("y", 1, (-1,)), False),
                             (("x", 1, (-2, 0)), False), (("y", 1, (0,)), True), (("y", 1, (1,)), False)):
            self.same(is_derivation(circuit, {"a": 1}, line[0], (line,)), wanted, line)

    def test_of_another_gate(self):
        for gate in gate_names(WAYS):
            self.same(is_derivation(WAYS, AT, gate, LINES), gate == "z")
            self.same(is_derivation(WAYS, AT, gate, LINES[:3]), gate == "y")

    def test_at_other_settings(self):
        self.same([is_derivation(WAYS, {"a": a, "b": b}, "x", LINES[:1]) for a in (0, 1, 2) for b in (0, 1, 2)], [True] * 3 + [False] * 6)
        self.same([is_derivation(WAYS, {"a": 0, "b": b}, "w", LINES[:2]) for b in (0, 1, 2)], [False, True, False])
        self.same(is_derivation(TIE, {"a": 2}, "x", (("x", 1, (0,)),)), False)
        self.same(is_derivation(TIE, {"a": 2}, "x", (("x", 2, ()),)), False)
        self.same(is_derivation(TIE, {"a": 0}, "x", (("x", 0, (0, 1)),)), False)
        self.same(is_derivation(OSC, {"a": 0}, "x", (("x", 1, (0, 1)),)), False)

    def test_every_kind_of_value(self):
        for value in odd_values():
            for circuit, setting in ((TIE, {"a": 1}), (TIE, {"a": 2}), (OSC, {"a": 0})):
                self.same(is_derivation(circuit, setting, "x", value), judged(circuit, setting, "x", value), value)
                self.same(is_derivation(circuit, setting, "x", (value,)), judged(circuit, setting, "x", (value,)), value)
            for place in range(3):
                line = ["x", 1, (0,)]
                line[place] = value
                wanted = repr(tuple(line)) == repr(("x", 1, (0,)))
                self.same(is_derivation(TIE, {"a": 1}, "x", (tuple(line),)), wanted, line)
            wanted = repr(value) == "0"
            self.same(is_derivation(TIE, {"a": 1}, "x", (("x", 1, (value,)),)), wanted, value)

    def test_lines_that_are_made_wrong(self):
        for circuit in small_circuits(25):
            for setting in settings_of(circuit, (0, 1, 2)):
                lines = derive_all(circuit, setting)
                for at, (name, bit, wires) in enumerate(lines):
                    gate = lines[-1][0]
                    for other in ((name, 1 - bit, wires), (name, bit, wires[1:]), (name, bit, wires + (9,)), (name, bit, (0,)),
                                  (name, bit, (0, 1)), (lines[0][0], bit, wires)):
                        value = lines[:at] + (other,) + lines[at + 1:]
                        self.same(is_derivation(circuit, setting, gate, value), judged(circuit, setting, gate, value), value)
                    for value in (lines[:at] + lines[at + 1:], lines[:at] + (lines[at],) + lines[at:], lines[::-1]):
                        self.same(is_derivation(circuit, setting, gate, value), judged(circuit, setting, gate, value), value)


class NeededLines(Case):
    def test_lines_that_are_not_needed_go(self):
        x, w, y, z = LINES
        v = ("v", 1, ())
        self.same(needed_lines(WAYS, AT, LINES), (x, y, z))
        self.same(needed_lines(WAYS, AT, (v, w, x, y, z)), (x, y, z))
        self.same(needed_lines(WAYS, AT, (v, x, w)), (w,))
        self.same(needed_lines(WAYS, AT, (x, w, y, v)), (v,))
        self.same(needed_lines(WAYS, AT, (x, y)), (x, y))
        self.same(needed_lines(WAYS, AT, (x,)), (x,))

    def test_lines_stay_as_they_are(self):
        x, w, y, z = LINES
        wide = ("y", 1, (0, 1, 2))
        self.same(needed_lines(WAYS, AT, (w, x, wide, z)), (w, x, wide, z))
        self.same(needed_lines(WAYS, AT, (x, w, wide, z)), (x, w, wide, z))
        self.same(needed_lines(WAYS, AT, (x, w, ("y", 1, (0, 1)), z)), (x, ("y", 1, (0, 1)), z))

    def test_against_the_definition(self):
        for circuit in small_circuits(40, gates=8) + [MIXED]:
            gates = {name: sources for name, sources, _ in circuit[1]}
            for setting in settings_of(circuit, (0, 1, 2)):
                lines = derive_all(circuit, setting)
                for most in range(1, len(lines) + 1):
                    needed = {lines[most - 1][0]}
                    for _ in lines:
                        needed |= {gates[name][wire] for name, _, wires in lines if name in needed for wire in wires}
                    wanted = tuple(line for line in lines[:most] if line[0] in needed)
                    self.same(needed_lines(circuit, setting, lines[:most]), wanted)

    def test_what_is_no_derivation(self):
        x, w, y, z = LINES
        for value in [(), (z,), (y, x), (x, x), [x], (x, y, ("z", True, (0, 1))), (x, ("y", 1, [0])), (x, y, w, z, z)]:
            self.refuses(InvalidValues, needed_lines, WAYS, AT, value)
        for value in odd_values():
            self.refuses(InvalidValues, needed_lines, TIE, {"a": 0}, value)
        self.refuses(InvalidValues, needed_lines, TIE, {"a": 0}, (("x", 1, (0,)),))


class DerivationErrors(Case):
    def test_what_is_no_circuit(self):
        for value in odd_values():
            if value != (("a",), ()):
                self.refuses(InvalidCircuit, derivation, value, None, None)
                self.refuses(InvalidCircuit, is_derivation, value, None, None, None)
                self.refuses(InvalidCircuit, derive_all, value, None)
                self.refuses(InvalidCircuit, needed_lines, value, None, None)

    def test_what_is_no_setting(self):
        for value in odd_values():
            if repr(value) not in ("{'a': 0}", "{'a': 1}", "{'a': 2}"):
                self.refuses(InvalidSetting, derivation, TIE, value, None)
                self.refuses(InvalidSetting, is_derivation, TIE, value, None, None)
                self.refuses(InvalidSetting, derive_all, TIE, value)
                self.refuses(InvalidSetting, needed_lines, TIE, value, None)

    def test_what_is_no_gate(self):
        for value in odd_values() + ["c"]:
            if value != "x":
                self.same(self.refuses(UnknownName, derivation, TIE, {"a": 1}, value).name, value)
                self.same(self.refuses(UnknownName, is_derivation, TIE, {"a": 1}, value, (("x", 1, (0,)),)).name, value)

    def test_keys_of_settings_in_any_order(self):
        for a, b in all_rows((0, 1, 2), 2):
            for gate in gate_names(WAYS):
                self.same(derivation(WAYS, {"a": a, "b": b}, gate), derivation(WAYS, {"b": b, "a": a}, gate))
            self.same(derive_all(WAYS, {"a": a, "b": b}), derive_all(WAYS, {"b": b, "a": a}))

    def test_arguments_stay(self):
        self.pure(derivation, WAYS, AT, "z")
        self.pure(is_derivation, WAYS, AT, "z", LINES)
        self.pure(derive_all, WAYS, AT)
        self.pure(needed_lines, WAYS, AT, LINES)


if __name__ == "__main__":
    unittest.main()
