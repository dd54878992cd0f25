"""Point 7.1: states of rest, and states that last."""

import itertools
import unittest

from loopgates.base.masks import row_masks
from loopgates.circuits.circuits import circuit_from, make_circuit
from loopgates.errors import InvalidCircuit, InvalidSetting, TooMany
from loopgates.runs.force import bit_masks, lasting_bits, lasting_states, rest_states
from loopgates.runs.states import excited, nodes, stepped_by
from loopgates.settling.known import known_values
from tests.samples import (
    CROSS, Case, EMPTY, LUCKY, OSC, TIE, all_rows, chain, odd_values, random_circuit, ring, settings_of, small_circuits, word_like)


def all_states(circuit):
    """Return all states, ascending."""
    wires = [len(sources) for _, sources, _ in circuit[1]]
    return [
        (own, taken) for own in all_rows((0, 1), len(wires))
        for taken in itertools.product(*[all_rows((0, 1), many) for many in wires])]


def lasting(circuit, setting):
    """Return the list of the states that last, by 7.1: from the graph of all states and all steps."""
    states = all_states(circuit)
    waiting = {state: excited(circuit, setting, state) for state in states}
    after = {}
    for state in states:
        steps = [
            tuple(node for node, k in zip(waiting[state], chosen) if k)
            for chosen in all_rows((0, 1), len(waiting[state])) if any(chosen)]
        after[state] = {step: stepped_by(circuit, setting, state, step) for step in steps}
    reached = {}
    for state in states:
        seen, open_ones = {state}, [state]
        while open_ones:
            for other in after[open_ones.pop()].values():
                if other not in seen:
                    seen.add(other)
                    open_ones.append(other)
        reached[state] = seen
    found = []
    for state in states:
        together = {other for other in reached[state] if state in reached[other]}
        moved = {node for other in together for step, to in after[other].items() if to in together for node in step}
        calm = {node for other in together for node in nodes(circuit) if node not in waiting[other]}
        if set(nodes(circuit)) <= moved | calm:
            found.append(state)
    return found


class Rest(Case):
    def test_examples(self):
        self.same(
            [list(rest_states(TIE, {"a": 0})), list(rest_states(OSC, {"a": 1})), lasting_bits(LUCKY, {}),
             lasting_bits(TIE, {"a": 1})],
            [[((0,), ((0, 0),)), ((1,), ((0, 1),))], [], {"n": (0, 1), "y": (0, 1)}, {"x": (1,)}])

    def test_against_the_definition(self):
        for circuit in small_circuits(60, 2, 3) + [LUCKY, make_circuit("a", x=("xor", "x", "x", "a"))]:
            for setting in settings_of(circuit, (0, 1)):
                if len(nodes(circuit)) <= 11:
                    wanted = [state for state in all_states(circuit) if not excited(circuit, setting, state)]
                    self.same(list(rest_states(circuit, setting)), wanted, (circuit, setting))

    def test_masks(self):
        for many in range(9):
            pairs, full = bit_masks(many)
            self.same([list(pairs), full], list(row_masks(many, 2)))

    def test_no_gates(self):
        self.same([list(rest_states(EMPTY, {})), list(rest_states(make_circuit("a"), {"a": 1}))], [[((), ())], [((), ())]])

    def test_twelve_gates_and_thirteen(self):
        found = list(rest_states(circuit_from((), {name: ("buffer", name) for name in "abcdefghijkl"}), {}))
        self.same([bits for bits, _ in found], all_rows((0, 1), 12))
        self.same([taken for _, taken in found[::1001]], [tuple((bit,) for bit in bits) for bits, _ in found[::1001]])
        self.same(list(rest_states(ring(12), {})), [((0,) * 12, ((0,),) * 12), ((1,) * 12, ((1,),) * 12)])
        for seed in range(10):
            circuit = random_circuit(seed, 2, 12, 4)
            for setting in settings_of(circuit, (0, 1)):
                found = list(rest_states(circuit, setting))
                self.same(found, sorted(found))
                self.same([excited(circuit, setting, state) for state in found], [()] * len(found))
        self.same(self.refuses(TooMany, next, rest_states(ring(13), {})).limit, 12)
        self.same(self.refuses(TooMany, list, rest_states(chain(200), {"a": 0})).limit, 12)

    def test_in_part_and_again(self):
        setting = {"a": 0}
        walk = rest_states(TIE, setting)
        other = rest_states(TIE, setting)
        self.same(next(walk), ((0,), ((0, 0),)))
        self.same(next(other), ((0,), ((0, 0),)))
        setting["a"] = 1
        self.same([next(walk), list(walk), list(other)], [((1,), ((0, 1),)), [], [((1,), ((0, 1),))]])
        self.same(list(rest_states(TIE, setting)), [((1,), ((1, 1),))])
        circuit = circuit_from((), {name: ("buffer", name) for name in "abcdefghijkl"})
        first, second = rest_states(circuit, {}), rest_states(circuit, {})
        for bits in all_rows((0, 1), 12)[:100]:
            self.same([next(first)[0], next(second)[0]], [bits, bits])

    def test_errors_come_with_the_first_result(self):
        rest_states(None, None)
        rest_states(ring(13), {})
        self.refuses(InvalidCircuit, next, rest_states(None, None))
        self.refuses(InvalidSetting, next, rest_states(OSC, {"a": 2}))


class Lasting(Case):
    def test_against_the_definition(self):
        circuits = [circuit for circuit in small_circuits(60, 1, 3) if len(nodes(circuit)) <= 6]
        circuits += [make_circuit(x=("not", "y"), y=("not", "x")), make_circuit("a", x=("xor", "x", "x", "a")), LUCKY]
        self.assertTrue(len(circuits) > 30)
        for circuit in circuits:
            for setting in settings_of(circuit, (0, 1)):
                wanted = lasting(circuit, setting)
                self.same(lasting_states(circuit, setting), tuple(wanted), (circuit, setting))
                self.same(lasting_bits(circuit, setting), {
                    gate[0]: tuple(sorted({own[at] for own, _ in wanted})) for at, gate in enumerate(circuit[1])})

    def test_derived_gates_have_their_bit_and_all_others_both(self):
        circuits = [circuit for circuit in small_circuits(150, 2, 4) if len(nodes(circuit)) <= 8]
        self.assertTrue(len([circuit for circuit in circuits if len(nodes(circuit)) > 6]) > 10)
        for circuit in circuits:
            for setting in settings_of(circuit, (0, 1)):
                known = known_values(circuit, setting)
                self.same(lasting_bits(circuit, setting), {
                    name: (0, 1) if value == 2 else (value,) for name, value in known.items()})

    def test_no_gates(self):
        for circuit, setting in ((EMPTY, {}), (make_circuit("a"), {"a": 0})):
            self.same([lasting_states(circuit, setting), lasting_bits(circuit, setting)], [(((), ()),), {}])

    def test_eight_nodes_and_nine(self):
        eight = circuit_from((), {name: ("not", name) for name in "abcd"})
        found = lasting_states(eight, {})
        self.same([len(found), found == tuple(sorted(found)), lasting_bits(eight, {})], [256, True, dict.fromkeys("abcd", (0, 1))])
        free = circuit_from((), {word_like(k): ("one",) for k in range(8)})
        self.same(lasting_states(free, {}), (((1,) * 8, ((),) * 8),))
        nine = circuit_from((), {word_like(k): ("one",) for k in range(9)})
        for circuit in (nine, make_circuit("a", w=("one",), x=("and", "a", "x", "x"), y=("xor", "x", "y", "y")), ring(5), CROSS):
            setting = {name: 0 for name in circuit[0]}
            for call in (lasting_states, lasting_bits):
                self.same(self.refuses(TooMany, call, circuit, setting).limit, 8)

    def test_states_of_a_buffer(self):
        self.same(lasting_states(make_circuit(x=("buffer", "x")), {}), (
            ((0,), ((0,),)), ((0,), ((1,),)), ((1,), ((0,),)), ((1,), ((1,),))))
        self.same(lasting_states(TIE, {"a": 1}), (((1,), ((1, 1),)),))


class Errors(Case):
    def test_order(self):
        calls = (lambda circuit, setting: list(rest_states(circuit, setting)), lasting_states, lasting_bits)
        for call in calls:
            for value in odd_values():
                if value != (("a",), ()):
                    self.refuses(InvalidCircuit, call, value, None)
                if repr(value) not in ("{'a': 0}", "{'a': 1}"):
                    self.refuses(InvalidSetting, call, OSC, value)
            self.refuses(InvalidSetting, call, OSC, {"a": 2})
            self.refuses(InvalidSetting, call, ring(13), {"a": 2})

    def test_arguments_stay(self):
        self.pure(lasting_states, TIE, {"a": 0})
        self.pure_dict(lasting_bits, TIE, {"a": 0})
        setting = {"a": 0}
        list(rest_states(TIE, setting))
        self.same(setting, {"a": 0})


if __name__ == "__main__":
    unittest.main()
