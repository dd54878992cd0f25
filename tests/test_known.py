"""Points 0.11, 0.14 and 3.1: known values, ranks and rounds."""

import unittest

from loopgates.circuits.circuits import circuit_from, gate_names, make_circuit
from loopgates.errors import InvalidCircuit, InvalidSetting, UnknownName
from loopgates.settling.known import derived_rounds, known_value, known_values, ranks, settles_all
from tests import oracle
from tests.samples import (
    CROSS, Case, EMPTY, LUCKY, MIXED, OSC, TIE, all_rows, chain, greatest, odd_values, random_circuit, ring, settings_of,
    small_circuits, word_like)

CALLS = (known_values, ranks, settles_all, lambda circuit, setting: list(derived_rounds(circuit, setting)))


class KnownValues(Case):
    def test_examples(self):
        self.same(
            [known_values(TIE, {"a": 1}), known_values(TIE, {"a": 0}), ranks(CROSS, {"c": 1, "a": 0}), known_values(LUCKY, {})],
            [{"x": 1}, {"x": 2}, {"p": 3, "q": 1, "u": 2}, {"n": 2, "y": 2}])

    def test_partial_settings(self):
        self.same(known_values(TIE, {"a": 2}), {"x": 2})
        self.same(known_values(OSC, {"a": 0}), {"x": 1})
        self.same([settles_all(CROSS, setting) for setting in settings_of(CROSS, (0, 1))], [True] * 4)
        self.same(known_values(CROSS, {"a": 0, "c": 2}), {"p": 2, "q": 2, "u": 2})
        self.same(known_values(CROSS, {"a": 2, "c": 0}), {"p": 2, "q": 2, "u": 2})

    def test_a_gate_that_reads_one_source_twice(self):
        circuit = make_circuit("a", x=("xor", "a", "a"), y=("and", "a", "a"), z=("or", "a", "n"), n=("not", "a"))
        self.same(known_values(circuit, {"a": 2}), {"n": 2, "x": 2, "y": 2, "z": 2})
        self.same(known_values(circuit, {"a": 1}), {"n": 0, "x": 0, "y": 1, "z": 1})
        self.same(ranks(circuit, {"a": 0}), {"n": 1, "x": 1, "y": 1, "z": 2})

    def test_against_the_definition(self):
        circuits = small_circuits(80) + [MIXED] + [random_circuit(seed, 2, 5, 4) for seed in range(100, 130)]
        for circuit in circuits:
            for setting in settings_of(circuit, (0, 1, 2)):
                wanted = oracle.known(circuit, setting)
                order = oracle.rank_dict(circuit, setting)
                self.same(known_values(circuit, setting), wanted, (circuit, setting))
                self.same(ranks(circuit, setting), order, (circuit, setting))
                rounds = [
                    {name: wanted[name] for name in wanted if order.get(name) == rank}
                    for rank in range(1, max(order.values(), default=0) + 1)]
                self.same(list(derived_rounds(circuit, setting)), rounds, (circuit, setting))
                self.same(settles_all(circuit, setting), 2 not in wanted.values(), (circuit, setting))
                for name in wanted:
                    self.same(known_value(circuit, setting, name), wanted[name])

    def test_more_bits_give_more_known_bits(self):
        for circuit in small_circuits(30):
            for setting in settings_of(circuit, (0, 1, 2)):
                less = {**setting, **{name: 2 for name in list(setting)[:1]}}
                below = known_values(circuit, less)
                above = known_values(circuit, setting)
                self.assertTrue(all(below[name] in (2, above[name]) for name in above))

    def test_nothing(self):
        for circuit, setting in ((EMPTY, {}), (make_circuit("a"), {"a": 2}), (make_circuit("a"), {"a": 1})):
            self.same([call(circuit, setting) for call in CALLS], [{}, {}, True, []])

    def test_gates_without_wires(self):
        circuit = make_circuit(x=("one",), y=("zero",), z=((1, 1), "z"))
        self.same([call(circuit, {}) for call in CALLS], [
            {"x": 1, "y": 0, "z": 1}, {"x": 1, "y": 1, "z": 1}, True, [{"x": 1, "y": 0, "z": 1}]])

    def test_keys_of_settings_in_any_order(self):
        circuit = make_circuit("a", "b", "c", z=("and", "a", "b"), y=("or", "b", "c", "z"), x=("choose", "c", "x", "y"))
        for row in all_rows((0, 1, 2), 3):
            setting = dict(zip("abc", row))
            turned = {name: setting[name] for name in "cab"}
            for call in CALLS:
                self.same(call(circuit, turned), call(circuit, setting))

    def test_keys_of_results_ascend(self):
        circuit = make_circuit("a", z=("not", "a"), y=("not", "z"), b=("not", "y"))
        self.same(list(known_values(circuit, {"a": 0})), ["b", "y", "z"])
        self.same(ranks(circuit, {"a": 0}), {"b": 3, "y": 2, "z": 1})
        found = ranks(greatest(), {name: 0 for name in "abcdefghijkl"})
        self.same(list(found), sorted(found))
        self.assertGreater(max(found.values()), 3)

    def test_chains_and_rings(self):
        for backwards in (False, True):
            circuit = chain(200, backwards=backwards)
            place = {word_like(k): 200 - k if backwards else k + 1 for k in range(200)}
            self.same(ranks(circuit, {"a": 1}), place)
            self.same(known_values(circuit, {"a": 1}), {name: 1 - place[name] % 2 for name in place})
            self.same(known_values(circuit, {"a": 2}), {name: 2 for name in place})
            self.same(len(list(derived_rounds(circuit, {"a": 0}))), 200)
        circuit = ring(200)
        self.same([ranks(circuit, {}), list(derived_rounds(circuit, {})), settles_all(circuit, {})], [{}, [], False])
        names = [word_like(k) for k in range(200)]
        gates = {name: ("and", "a", names[k - 1]) for k, name in enumerate(names)}
        gates[names[50]] = ("and", "a", names[49], "b", "a")
        cut = circuit_from(("a", "b"), gates)
        self.same(ranks(cut, {"a": 1, "b": 0}), {name: (k - 50) % 200 + 1 for k, name in enumerate(names)})
        self.same(settles_all(cut, {"a": 1, "b": 1}), False)
        self.same(set(ranks(cut, {"a": 0, "b": 2}).values()), {1})

    def test_greatest(self):
        circuit = greatest()
        for number, row in enumerate(all_rows((0, 1, 2), 3)):
            setting = {name: row[k % 3] if k < 9 else number % 2 for k, name in enumerate("abcdefghijkl")}
            found = known_values(circuit, setting)
            values = {**setting, **found}
            for name, sources, table in circuit[1][number::13]:
                self.same(found[name], oracle.forced(table, [values[source] for source in sources]))
            order = ranks(circuit, setting)
            self.same([name for name in found if found[name] != 2], list(order))
        setting = {name: 0 for name in "abcdefghijkl"}
        self.same(known_values(circuit, setting), oracle.known(circuit, setting))


class Rounds(Case):
    def test_generator_in_part_and_again(self):
        setting = {"c": 1, "a": 0}
        first = derived_rounds(CROSS, setting)
        self.same(next(first), {"q": 0})
        second = derived_rounds(CROSS, setting)
        self.same(next(first), {"u": 0})
        self.same(list(second), [{"q": 0}, {"u": 0}, {"p": 1}])
        self.same(list(first), [{"p": 1}])
        self.same(list(first), [])
        self.same(setting, {"c": 1, "a": 0})

    def test_changes_of_yielded_dicts_change_nothing(self):
        found = []
        for bits in derived_rounds(CROSS, {"c": 1, "a": 0}):
            found.append(dict(bits))
            bits.clear()
            bits["p"] = 0
        self.same(found, [{"q": 0}, {"u": 0}, {"p": 1}])

    def test_a_setting_that_changes_later(self):
        setting = {"c": 1, "a": 0}
        rounds = derived_rounds(CROSS, setting)
        self.same(next(rounds), {"q": 0})
        setting["a"] = 1
        setting.clear()
        self.same(list(rounds), [{"u": 0}, {"p": 1}])

    def test_errors_are_raised_at_the_first_result(self):
        for circuit, setting, kind in ((None, {}, InvalidCircuit), (TIE, {}, InvalidSetting), ([], None, InvalidCircuit)):
            rounds = derived_rounds(circuit, setting)
            self.refuses(kind, next, rounds)


class KnownErrors(Case):
    def test_what_is_no_circuit(self):
        for value in odd_values():
            if value != (("a",), ()):
                for call in CALLS:
                    self.refuses(InvalidCircuit, call, value, {"a": 0})
                    self.refuses(InvalidCircuit, call, value, None)
                self.refuses(InvalidCircuit, known_value, value, None, None)

    def test_what_is_no_setting(self):
        for value in odd_values():
            if repr(value) not in ("{'a': 0}", "{'a': 1}", "{'a': 2}"):
                for call in CALLS:
                    self.refuses(InvalidSetting, call, TIE, value)
                self.refuses(InvalidSetting, known_value, TIE, value, "zz")
                self.refuses(InvalidSetting, known_values, TIE, {"a": value} if value not in (0, 1, 2) else {"x": value})
            if value != {} or not isinstance(value, dict):
                self.refuses(InvalidSetting, known_values, LUCKY, value)
        for value in ({"a": 0, "x": 1}, {"a": 0, "b": 1, "c": 0}, {"a": 0}, {"c": 0}, {}, {"a": 0, "c": 3}, {"a": True, "c": 0},
                      {"a": 0, "c": False}, {"a": 0, 1: 0}, {"a": 0, "c": "0"}, {"a": 0, "c": None}, {"a": 0, "c": -1},
                      (("a", 0), ("c", 0)), [("a", 0), ("c", 0)], ("a", "c")):
            for call in CALLS:
                self.refuses(InvalidSetting, call, CROSS, value)

    def test_values_that_the_package_returned(self):
        rounds = derived_rounds(TIE, {"a": 1})
        for value in (rounds, known_values(CROSS, {"a": 0, "c": 1}), ranks(TIE, {"a": 1}), TIE[1], TIE[1][0]):
            for call in CALLS:
                self.refuses(InvalidCircuit, call, value, {"a": 1})
                self.refuses(InvalidSetting, call, TIE, value)
            self.same(self.refuses(UnknownName, known_value, TIE, {"a": 1}, value).name, value)
        self.same(list(rounds), [{"x": 1}])

    def test_what_is_no_gate(self):
        for value in odd_values() + ["p", "c"]:
            if value != "x":
                self.same(self.refuses(UnknownName, known_value, TIE, {"a": 2}, value).name, value)

    def test_order(self):
        self.refuses(InvalidCircuit, known_value, TIE[1], {"a": 3}, "y")
        self.refuses(InvalidSetting, known_value, TIE, {"a": 3}, "y")
        self.same(self.refuses(UnknownName, known_value, TIE, {"a": 1}, "a").name, "a")

    def test_arguments_stay(self):
        setting = {"c": 2, "a": 1}
        for call in CALLS:
            self.pure(call, CROSS, setting)
        self.pure(known_value, CROSS, setting, "p")
        self.pure_dict(known_values, CROSS, setting)
        self.pure_dict(ranks, CROSS, {"c": 1, "a": 1})


if __name__ == "__main__":
    unittest.main()
