"""Points 10.1 and 10.2: unrolled circuits."""

import unittest

from loopgates.circuits.circuits import circuit_from, gate_names, held, is_circuit, make_circuit
from loopgates.circuits.loops import is_loop_free, loop_gates, parts
from loopgates.errors import InvalidCircuit, InvalidNumber, InvalidOperation, TooMany, UnknownName
from loopgates.settling.known import known_values
from loopgates.unrolled.unrolled import (
    first_difference, gate_formulas, is_unrolling, least_copies, unrolled, unrolled_by)
from tests.samples import (
    CROSS, Case, EMPTY, LUCKY, MIXED, OSC, TIE, chain, greatest, odd_values, random_circuit, ring, settings_of, small_circuits,
    word_like)


def is_right(circuit, plain, names):
    """Return whether all names have the bits of the derived gates, at all settings."""
    for setting in settings_of(circuit, (0, 1)):
        known = known_values(circuit, setting)
        bits = {**setting, **known_values(plain, setting)}
        if any(known[gate] not in (2, bits[names[gate]]) for gate in known):
            return False
    return True


def by_copies(circuit, copies):
    """Return for each setting the last bits of all gates, by the words of 10.2."""
    found = []
    for setting in settings_of(circuit, (0, 1)):
        last = dict(setting)
        gates = {name: (sources, table) for name, sources, table in circuit[1]}
        for part in parts(circuit):
            before = {name: 0 for name in part}
            loops = part[0] in loop_gates(circuit)
            for _ in range(copies if loops else 1):
                after = {}
                for name in part:
                    sources, table = gates[name]
                    bits = [before[source] if source in part else last[source] for source in sources]
                    after[name] = table[int("0" + "".join(map(str, bits)), 2)]
                before = after
            last.update(before)
        found.append({name: last[name] for name in gates})
    return found


SAMPLES = small_circuits(70, 2, 5) + [MIXED, make_circuit("a"), random_circuit(5, 3, 7, 3), random_circuit(6, 2, 8, 2)]


class Unrolled(Case):
    def test_example(self):
        plain, names = unrolled(CROSS)
        self.same(
            [is_loop_free(plain), is_unrolling(CROSS, (plain, names)), least_copies(CROSS), least_copies(TIE)],
            [True, True, 3, 1])

    def test_small_circuits(self):
        for circuit in SAMPLES:
            plain, names = unrolled(circuit)
            self.same([is_circuit(plain), is_loop_free(plain), plain[0]], [True, True, circuit[0]])
            self.same(list(names), list(gate_names(circuit)))
            self.assertTrue(set(names.values()) <= set(gate_names(plain) + plain[0]))
            self.same([is_right(circuit, plain, names), is_unrolling(circuit, (plain, names))], [True, True])

    def test_no_gates(self):
        for circuit in (EMPTY, make_circuit("a", "b")):
            self.same([unrolled(circuit), unrolled_by(circuit, 7), least_copies(circuit)], [(circuit, {}), (circuit, {}), 1])
            self.same([is_unrolling(circuit, (circuit, {})), is_unrolling(circuit, (circuit, {"a": "a"}))], [True, False])

    def test_circuits_without_loops_meet_no_limit(self):
        for circuit in (chain(200), greatest_plain()):
            for plain, names in (unrolled(circuit), unrolled_by(circuit, 200)):
                self.same([is_loop_free(plain), list(names), is_unrolling(circuit, (plain, names))], [True, list(gate_names(circuit)), True])
            self.same(least_copies(circuit), 1)

    def test_limits(self):
        for many, copies in ((14, 14), (199, 1), (1, 199), (3, 66), (66, 3)):
            circuit = ring(many)
            plain, names = unrolled_by(circuit, copies)
            self.same([len(plain[1]), is_unrolling(circuit, (plain, names))], [1 + many * copies, True])
        for many, copies in ((200, 1), (1, 200), (67, 3), (100, 2)):
            self.same(self.refuses(TooMany, unrolled_by, ring(many), copies).limit, 200)
        self.same(len(unrolled(ring(14))[0][1]), 197)
        self.same(self.refuses(TooMany, unrolled, ring(15)).limit, 200)
        made = {name: (table, *sources) for name, sources, table in ring(14)[1]}
        for extra, fits in ((3, True), (4, False)):
            circuit = circuit_from((), {**made, **{"z" + word_like(k): ("one",) for k in range(extra)}})
            if fits:
                self.same(len(unrolled(circuit)[0][1]), 200)
            else:
                self.refuses(TooMany, unrolled, circuit)
                self.refuses(TooMany, unrolled_by, circuit, 14)
                self.same([len(unrolled_by(circuit, 13)[0][1]), least_copies(circuit)], [1 + 13 * 14 + 4, 1])


def greatest_plain():
    """Return a circuit of 200 gates without loops and with twelve inputs."""
    names = [word_like(k) for k in range(200)]
    inputs = "abcdefghijkl"
    made = {
        name: ("choose", inputs[k % 12], names[k // 2] if k else "a", inputs[k * 5 % 12]) for k, name in enumerate(names)}
    return circuit_from(tuple(inputs), made)


class Copies(Case):
    def test_any_number_of_copies(self):
        for circuit in SAMPLES:
            for copies in (1, 2, 3, 5):
                plain, names = unrolled_by(circuit, copies)
                self.same([is_circuit(plain), is_loop_free(plain), plain[0]], [True, True, circuit[0]])
                looping = loop_gates(circuit)
                many = len(circuit[1]) - len(looping) + copies * len(looping) + (1 if looping else 0)
                self.same([len(plain[1]), list(names)], [many, list(gate_names(circuit))])
                got = []
                for setting in settings_of(circuit, (0, 1)):
                    bits = {**setting, **known_values(plain, setting)}
                    got.append({gate: bits[names[gate]] for gate in names})
                self.same(got, by_copies(circuit, copies), (circuit, copies))
                self.same(is_unrolling(circuit, (plain, names)), is_right(circuit, plain, names))

    def test_least_copies(self):
        found = set()
        for circuit in SAMPLES + [random_circuit(seed, 2, 8, 2) for seed in range(80)]:
            least = least_copies(circuit)
            found.add(least)
            for copies in range(1, least + 1):
                self.same(is_unrolling(circuit, unrolled_by(circuit, copies)), copies == least, (circuit, copies))
        self.assertTrue({1, 2, 3} <= found)

    def test_as_many_copies_as_a_part_has_gates_are_enough(self):
        for seed in range(60):
            circuit = random_circuit(seed, 2, 7, 2)
            most = max((len(part) for part in parts(circuit)), default=1)
            for copies in (most, most + 1, most + 3):
                self.same(is_unrolling(circuit, unrolled_by(circuit, copies)), True)
            self.assertTrue(least_copies(circuit) <= most)

    def test_where_more_copies_raise_an_error(self):
        names = [word_like(k) for k in range(200)]
        circuit = circuit_from(("a",), {name: ("buffer", names[k - 1]) if k else ("or", "a", names[199]) for k, name in enumerate(names)})
        self.same(least_copies(circuit), 200)
        self.refuses(TooMany, unrolled_by, circuit, 200)
        self.refuses(TooMany, unrolled, circuit)
        self.same([least_copies(ring(200)), least_copies(greatest()) <= 200], [1, True])
        two = {name: ("buffer", names[k - 1]) if k % 100 else ("or", "a", names[k + 99]) for k, name in enumerate(names)}
        two[names[150]] = ("xor", names[149], names[99])
        self.same(least_copies(circuit_from(("a",), two)) <= 100, True)

    def test_numbers_of_copies(self):
        for value in odd_values() + [0, 201, 10 ** 39, -1, True]:
            if not (type(value) is int and 1 <= value <= 200):
                for circuit in (TIE, EMPTY, chain(200), ring(200)):
                    self.same(self.refuses(InvalidNumber, unrolled_by, circuit, value).value, value)


class Judging(Case):
    def test_other_unrollings(self):
        for plain, names, right in (
                (make_circuit("a", y=("buffer", "a")), {"x": "y"}, True), (make_circuit("a", y=("one",)), {"x": "y"}, True),
                (make_circuit("a"), {"x": "a"}, True), (make_circuit("a", y=("not", "a")), {"x": "y"}, False),
                (make_circuit("a", y=("zero",)), {"x": "y"}, False), (make_circuit("a", y=("zero",), z=("one",)), {"x": "z"}, True),
                (make_circuit("a", x=("one",)), {"x": "x"}, True)):
            self.same(is_unrolling(TIE, (plain, names)), right, (plain, names))
        self.same(is_unrolling(OSC, (make_circuit("a", x=("not", "a")), {"x": "x"})), True)
        self.same(is_unrolling(OSC, (make_circuit("a", x=("zero",)), {"x": "x"})), False)
        self.same(is_unrolling(LUCKY, (make_circuit(o=("one",)), {"n": "o", "y": "o"})), True)

    def test_wrong_unrollings(self):
        plain, names = make_circuit("a", y=("one",)), {"x": "y"}
        for value in (
                [plain, names], (plain,), (plain, names, 0), (names, plain), (plain, {}), (plain, {"x": "z"}), (plain, {"x": "X"}),
                (plain, {"x": "y", "y": "y"}), (plain, {"y": "y"}), (plain, {"x": None}), (plain, {"x": ["y"]}), (plain, {"x": ("y",)}),
                (plain, {"x": 1}), (plain, {"a": "y"}), (plain, [("x", "y")]), (plain, ("x", "y")), (plain, None), (None, names),
                (TIE, {"x": "x"}), (make_circuit("a", y=("one",), z=("buffer", "z")), names), (make_circuit("b", y=("one",)), names),
                (make_circuit("a", "b", y=("one",)), names), (make_circuit(y=("one",)), names), ((("a",), (("y", (), (True,)),)), names),
                ((("a",), [("y", (), (1,))]), names), (list(plain), names)):
            self.same(is_unrolling(TIE, value), False, value)
        for value in odd_values():
            self.same(is_unrolling(TIE, value), False, value)
            self.same(is_unrolling(TIE, (plain, {"x": value})), value == "a", value)
            self.same(is_unrolling(TIE, (value, {"x": "a"})), value == (("a",), ()), value)
            self.same(is_unrolling(EMPTY, value), False, value)

    def test_any_order_of_keys(self):
        plain, names = unrolled(CROSS)
        self.same(is_unrolling(CROSS, (plain, {gate: names[gate] for gate in "upq"})), True)


class Formulas(Case):
    def test_gate_formulas(self):
        for circuit in [held(circuit, **{gate: 1 for gate in loop_gates(circuit)}) for circuit in SAMPLES]:
            found = gate_formulas(circuit)
            self.same(list(found), list(gate_names(circuit)))
            for setting in settings_of(circuit, (0, 1)):
                self.same({gate: found[gate](setting) for gate in found}, known_values(circuit, setting))
        self.same({name: str(formula) for name, formula in gate_formulas(make_circuit("a", n=("not", "a"), y=("or", "a", "n"))).items()}, {
            "n": "a ? 0 : 1", "y": "1"})
        self.same([gate_formulas(EMPTY), gate_formulas(make_circuit("a"))], [{}, {}])
        for circuit in (TIE, CROSS, ring(200), MIXED):
            self.refuses(InvalidOperation, gate_formulas, circuit)
        self.same(len(gate_formulas(greatest_plain())), 200)

    def test_first_difference(self):
        first = make_circuit("a", "b", x=("and", "a", "b"), y=("or", "a", "b"), z=("xor", "a", "b"))
        second = make_circuit("a", "b", x=("and", "a", "b"), y=("xor", "a", "b"), z=("same", "a", "b"), w=("one",))
        self.same([first_difference(first, second, names) for names in (
            ("x",), ("y",), ("z",), ("x", "y"), ("y", "z", "y"), (), ("a", "b"), ("a", "x", "y"))], [
                None, {"a": 1, "b": 1}, {"a": 0, "b": 0}, {"a": 1, "b": 1}, {"a": 0, "b": 0}, None, None, {"a": 1, "b": 1}])
        for seed in range(60):
            one, other = random_circuit(seed, 3, 4, 3), random_circuit(seed + 1000, 3, 4, 3)
            one, other = [held(circuit, **{gate: 0 for gate in loop_gates(circuit)}) for circuit in (one, other)]
            names = gate_names(one)[seed % 3:]
            settings = settings_of(one, (0, 1))
            unlike = [setting for setting in settings if any(
                known_values(one, setting)[name] != known_values(other, setting)[name] for name in names)]
            self.same(first_difference(one, other, names), unlike[0] if unlike else None)
        setting = first_difference(first, second, ("y",))
        setting.clear()
        self.same(first_difference(first, second, ("y",)), {"a": 1, "b": 1})

    def test_errors_of_first_difference(self):
        plain, other = make_circuit("a", x=("one",)), make_circuit("a", "b", x=("one",), y=("one",))
        for value in odd_values():
            if value != (("a",), ()):
                self.refuses(InvalidCircuit, first_difference, value, value, None)
                self.refuses(InvalidCircuit, first_difference, plain, value, None)
            if not isinstance(value, tuple):
                self.refuses(InvalidOperation, first_difference, plain, plain, value)
            if value not in ("a", "x"):
                self.same(self.refuses(UnknownName, first_difference, plain, plain, ("x", value, 5)).name, value)
        self.same(self.refuses(UnknownName, first_difference, TIE, other, ("x", "b", "y")).name, "b")
        self.same(self.refuses(UnknownName, first_difference, other, TIE, ("x", "y", "b")).name, "y")
        self.refuses(InvalidOperation, first_difference, plain, other, ("x",))
        self.refuses(InvalidOperation, first_difference, plain, TIE, ("x",))
        self.refuses(InvalidOperation, first_difference, TIE, plain, ())
        self.refuses(InvalidOperation, first_difference, plain, make_circuit("b", x=("one",)), ())
        self.same(first_difference(plain, make_circuit("a", x=("buffer", "a")), ("x",)), {"a": 0})


class Errors(Case):
    def test_circuits(self):
        for value in odd_values():
            if value != (("a",), ()):
                self.refuses(InvalidCircuit, unrolled, value)
                self.refuses(InvalidCircuit, unrolled_by, value, None)
                self.refuses(InvalidCircuit, is_unrolling, value, None)
                self.refuses(InvalidCircuit, least_copies, value)
                self.refuses(InvalidCircuit, gate_formulas, value)

    def test_arguments_stay(self):
        self.pure(unrolled, CROSS)
        self.pure(unrolled_by, CROSS, 2)
        self.pure(is_unrolling, CROSS, unrolled(CROSS))
        self.pure(least_copies, CROSS)
        plain, names = unrolled(CROSS)
        names.clear()
        self.same(len(unrolled(CROSS)[1]), 3)

    def test_names_that_inputs_have_already(self):
        inputs = tuple(word_like(k) for k in range(12))
        circuit = circuit_from(inputs, {"x": ("or", "x", inputs[0]), "y": ("and", "x", inputs[3], "y")})
        for pair in (unrolled(circuit), unrolled_by(circuit, 5)):
            self.same([is_circuit(pair[0]), is_unrolling(circuit, pair)], [True, True])


if __name__ == "__main__":
    unittest.main()
