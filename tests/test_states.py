"""Points 0.12 and 0.13: nodes, states, wishes and steps."""

import random
import unittest

from loopgates.circuits.circuits import circuit_from, gate_names, make_circuit
from loopgates.errors import (
    InvalidCircuit, InvalidNumber, InvalidSetting, InvalidState, InvalidStep, UnknownName)
from loopgates.runs.states import (
    bit_of, excited, is_state, nodes, plain_state, state_from, stepped, stepped_by, wish_of)
from loopgates.settling.known import known_values, ranks
from tests import oracle
from tests.samples import (
    CROSS, Case, EMPTY, LUCKY, MIXED, OSC, TIE, all_rows, chain, greatest, odd_values, ring, settings_of, small_circuits,
    word_like)


def states_of(circuit, most=64):
    """Return states of the circuit: all of them, or some."""
    every = [(name, k) for name, sources, _ in circuit[1] for k in range(-1, len(sources))]
    dice = random.Random(len(every))
    if 2 ** len(every) <= most:
        rows = all_rows((0, 1), len(every))
    else:
        rows = [tuple(dice.randint(0, 1) for _ in every) for _ in range(most)]
    return [built(circuit, dict(zip(every, row))) for row in rows]


def built(circuit, bits):
    """Return the state with these bits of all nodes."""
    return (
        tuple(bits[name, -1] for name, _, _ in circuit[1]),
        tuple(tuple(bits[name, k] for k in range(len(sources))) for name, sources, _ in circuit[1]))


def taken(circuit, state):
    """Return a dict from the nodes to their bits."""
    bits = {}
    for at, (name, sources, _) in enumerate(circuit[1]):
        bits[name, -1] = state[0][at]
        for k in range(len(sources)):
            bits[name, k] = state[1][at][k]
    return bits


def wishes(circuit, setting, state):
    """Return a dict from the nodes to their wishes."""
    bits = taken(circuit, state)
    found = {}
    for name, sources, table in circuit[1]:
        found[name, -1] = oracle.result(table, [bits[name, k] for k in range(len(sources))])
        for k, source in enumerate(sources):
            found[name, k] = setting[source] if source in setting else bits[source, -1]
    return found


class States(Case):
    def test_examples(self):
        self.same(
            [plain_state(OSC), excited(OSC, {"a": 1}, plain_state(OSC)),
             stepped(OSC, {"a": 1}, plain_state(OSC), ("x", 0), ("x", -1))],
            [((0,), ((0, 0),)), (("x", -1), ("x", 0)), ((1,), ((1, 0),))])

    def test_nodes(self):
        self.same(nodes(OSC), (("x", -1), ("x", 0), ("x", 1)))
        self.same(nodes(CROSS), (
            ("p", -1), ("p", 0), ("q", -1), ("q", 0), ("q", 1), ("q", 2), ("u", -1), ("u", 0), ("u", 1), ("u", 2)))
        self.same([nodes(EMPTY), nodes(make_circuit("a")), nodes(make_circuit(x=("one",)))], [(), (), (("x", -1),)])
        self.same(len(nodes(greatest())), 1000)
        self.same(nodes(greatest()), tuple(sorted(nodes(greatest()))))

    def test_plain_state(self):
        self.same([plain_state(CROSS), plain_state(CROSS, bit=1), plain_state(EMPTY, bit=1), plain_state(LUCKY, bit=0)], [
            ((0, 0, 0), ((0,), (0, 0, 0), (0, 0, 0))), ((1, 1, 1), ((1,), (1, 1, 1), (1, 1, 1))), ((), ()),
            ((0, 0), ((0,), (0, 0)))])
        self.same(plain_state(make_circuit(x=("one",)), bit=1), ((1,), ((),)))
        for value in odd_values():
            if not (type(value) is int and value in (0, 1)):
                self.same(self.refuses(InvalidNumber, plain_state, OSC, bit=value).value, value)
                self.refuses(InvalidCircuit, plain_state, value if value != (("a",), ()) else 0, bit=value)

    def test_state_from(self):
        self.same(state_from(OSC, {}), plain_state(OSC))
        self.same(state_from(EMPTY, {}), ((), ()))
        self.same(state_from(OSC, {("x", 1): 1}), ((0,), ((0, 1),)))
        self.same(state_from(OSC, {("x", 1): 0, ("x", -1): 1}), ((1,), ((0, 0),)))
        self.same(state_from(CROSS, {("u", 2): 1, ("u", -1): 1, ("p", 0): 1}), ((0, 0, 1), ((1,), (0, 0, 0), (0, 0, 1))))
        for circuit in (CROSS, MIXED, LUCKY):
            for state in states_of(circuit):
                bits = taken(circuit, state)
                self.same(state_from(circuit, bits), state)
                self.same(state_from(circuit, dict(reversed(bits.items()))), state)
                self.same(state_from(circuit, {node: bit for node, bit in bits.items() if bit}), state)

    def test_state_from_refuses(self):
        for value in odd_values():
            if repr(value) not in ("{}", "{('x', 0): 1}", "{('x', -1): 0}"):
                self.refuses(InvalidState, state_from, OSC, value)
            if not (type(value) is int and value in (0, 1)):
                self.refuses(InvalidState, state_from, OSC, {("x", 0): value})
                self.refuses(InvalidState, state_from, OSC, {("x", -1): 1, ("x", 0): value})
        for key in (("x", 2), ("x", -2), ("x", True), ("x", False), ("x", None), ("a", -1), ("a", 0), ("y", -1), "x", ("x",),
                    ("x", 0, 0), 0, None, (), ("x", "0"), (0, "x"), ("X", 0), ("x", 10 ** 39), (("x", 0),)):
            self.refuses(InvalidState, state_from, OSC, {key: 1})
            self.refuses(InvalidState, state_from, OSC, {("x", -1): 1, key: 0})

    def test_is_state(self):
        for circuit in (TIE, CROSS, LUCKY, MIXED, EMPTY):
            for state in states_of(circuit, 16):
                self.same(is_state(circuit, state), True, state)
        self.same([is_state(TIE, plain_state(CROSS)), is_state(LUCKY, plain_state(TIE)), is_state(EMPTY, plain_state(TIE))], [False] * 3)
        self.same(is_state(greatest(), plain_state(greatest(), bit=1)), True)

    def test_what_is_no_state(self):
        for value in (
                (), ((0,),), ((0,), ((0, 0),), ()), [(0,), ((0, 0),)], ([0], ((0, 0),)), ((0,), [(0, 0)]), ((0,), ([0, 0],)),
                ((0, 0), ((0, 0),)), ((), ((0, 0),)), ((0,), ()), ((0,), ((0,),)), ((0,), ((0, 0, 0),)), ((0,), ((0, 0), (0, 0))),
                ((0,), ((0, 0), ())), ((2,), ((0, 0),)), ((0,), ((0, 2),)), ((-1,), ((0, 0),)), ((True,), ((0, 0),)),
                ((0,), ((False, 0),)), ((0,), ((0, True),)), ((None,), ((0, 0),)), ((0,), ((0, None),)), (("0",), ((0, 0),)),
                ("0", ("00",)), ((0,), ("00",)), ("0", ((0, 0),)), ((0,), (0, 0)), (0, ((0, 0),)), ((0,), 0), ((0,), None), ((0,), {}),
                ({}, ()), {0: 0}, None, 0, True, "", (((0,),), ((0, 0),)), ((0,), (((0, 0),),)), (([],), ((0, 0),)), ((0,), (([], 0),))):
            self.same(is_state(TIE, value), False, value)
        for value in odd_values():
            self.same(is_state(OSC, value), repr(value) == "((0,), ((0, 0),))", value)
            self.same(is_state(OSC, ((value,), ((0, 0),))), type(value) is int and value in (0, 1), value)
            self.same(is_state(OSC, ((0,), ((0, value),))), type(value) is int and value in (0, 1), value)
            self.same(is_state(OSC, ((0,), (value,))), repr(value) == "(0, 1)", value)
            self.same(is_state(OSC, ((0,), value)), False, value)
            self.same(is_state(OSC, (value, ((0, 0),))), repr(value) in ("(0,)", "(1,)"), value)
            self.same(is_state(EMPTY, value), False, value)

    def test_bits_and_wishes(self):
        for circuit in small_circuits(25) + [MIXED]:
            for setting in settings_of(circuit, (0, 1)):
                for state in states_of(circuit, 16):
                    bits = taken(circuit, state)
                    wanted = wishes(circuit, setting, state)
                    for node in nodes(circuit):
                        self.same(bit_of(circuit, state, node), bits[node])
                        self.same(wish_of(circuit, setting, state, node), wanted[node])
                    uneasy = tuple(node for node in nodes(circuit) if bits[node] != wanted[node])
                    self.same(excited(circuit, setting, state), uneasy)

    def test_known_gates_of_the_document(self):
        self.same(excited(LUCKY, {}, state_from(LUCKY, {("y", -1): 1, ("y", 1): 1, ("n", 0): 1})), ())
        self.same(excited(EMPTY, {}, ((), ())), ())
        self.same(excited(make_circuit(x=("one",)), {}, ((0,), ((),))), (("x", -1),))


class Steps(Case):
    def test_all_steps_of_small_circuits(self):
        for circuit in (TIE, OSC, LUCKY, make_circuit("a", x=("not", "a"), y=("xor", "x", "y"))):
            for setting in settings_of(circuit, (0, 1)):
                for state in states_of(circuit, 64):
                    uneasy = excited(circuit, setting, state)
                    before = taken(circuit, state)
                    wanted = wishes(circuit, setting, state)
                    for choice in all_rows((0, 1), len(uneasy)):
                        movers = tuple(node for node, taking in zip(uneasy, choice) if taking)
                        if not movers:
                            continue
                        after = built(circuit, {node: wanted[node] if node in movers else before[node] for node in before})
                        self.same(stepped(circuit, setting, state, *movers), after)
                        self.same(stepped_by(circuit, setting, state, movers), after)
                        self.same(stepped_by(circuit, setting, state, movers[::-1]), after)

    def test_all_wishes_are_those_of_the_state_before(self):
        state = ((0,), ((0, 1),))
        self.same(stepped(TIE, {"a": 0}, state, ("x", -1), ("x", 1)), ((1,), ((0, 0),)))
        self.same(stepped(TIE, {"a": 0}, ((1,), ((0, 0),)), ("x", 1), ("x", -1)), state)
        circuit = make_circuit(x=("not", "y"), y=("not", "x"))
        self.same(stepped(circuit, {}, plain_state(circuit), ("y", -1), ("x", -1)), ((1, 1), ((0,), (0,))))
        self.same(stepped_by(circuit, {}, ((1, 1), ((0,), (0,))), (("x", 0), ("y", 0))), ((1, 1), ((1,), (1,))))

    def test_wrong_movers(self):
        state = plain_state(OSC)
        for movers in (
                (), (("x", 1),), (("x", -1), ("x", 1)), (("x", 1), ("x", -1)), (("x", -1), ("x", -1)), (("x", 0), ("x", -1), ("x", 0)),
                (("x", 2),), (("x", -2),), (("y", -1),), (("a", -1),), (("a", 0),), (("x", -1), ("y", 0)), (("x", False),),
                (("x", -1), ("x", False)), (("x", "0"),), (("x",),), (("x", -1, 0),), ("x", -1), (["x", -1],), (None,), ((),), ([],), ({},),
                (0,), (("x", None),), (("x", []),), (([], 0),), ((("x", -1),),), (("x", 10 ** 39),)):
            self.refuses(InvalidStep, stepped, OSC, {"a": 1}, state, *movers)
            self.refuses(InvalidStep, stepped_by, OSC, {"a": 1}, state, movers)
        for value in odd_values():
            if not isinstance(value, tuple):
                self.refuses(InvalidStep, stepped_by, OSC, {"a": 1}, state, value)
            if repr(value) not in ("('x', 0)", "('x', -1)"):
                self.refuses(InvalidStep, stepped, OSC, {"a": 1}, state, value)
                self.refuses(InvalidStep, stepped, OSC, {"a": 1}, state, ("x", -1), value)
                self.refuses(InvalidStep, stepped_by, OSC, {"a": 1}, state, (value, ("x", -1)))
        self.refuses(InvalidStep, stepped_by, OSC, {"a": 1}, state, [("x", -1)])
        self.refuses(InvalidStep, stepped_by, OSC, {"a": 1}, state, {("x", -1): 1})
        self.refuses(InvalidStep, stepped, TIE, {"a": 1}, ((0,), ((1, 0),)), ("x", True))
        self.refuses(InvalidStep, stepped, TIE, {"a": 0}, ((1,), ((0, 0),)), ("x", True))

    def test_nothing_is_excited(self):
        rest = ((1,), ((0, 1),))
        self.same(excited(OSC, {"a": 0}, rest), ())
        for node in nodes(OSC):
            self.refuses(InvalidStep, stepped, OSC, {"a": 0}, rest, node)
        self.refuses(InvalidStep, stepped, EMPTY, {}, ((), ()))

    def test_derived_gates_have_their_bits_after_enough_steps(self):
        for circuit in small_circuits(20):
            for setting in settings_of(circuit, (0, 1)):
                known = known_values(circuit, setting)
                many = 2 * max(ranks(circuit, setting).values(), default=0)
                for state in states_of(circuit, 8):
                    for _ in range(many):
                        movers = excited(circuit, setting, state)
                        state = stepped_by(circuit, setting, state, movers) if movers else state
                    for name, value in known.items():
                        if value != 2:
                            self.same(bit_of(circuit, state, (name, -1)), value)

    def test_greatest(self):
        circuit = greatest()
        setting = {name: k % 2 for k, name in enumerate(circuit[0])}
        state = plain_state(circuit)
        for _ in range(20):
            wanted = wishes(circuit, setting, state)
            movers = excited(circuit, setting, state)
            if not movers:
                break
            state = stepped_by(circuit, setting, state, movers)
            self.same(taken(circuit, state), wanted)
        circuit = ring(200)
        state = state_from(circuit, {(word_like(0), -1): 1})
        self.same(excited(circuit, {}, state), ((word_like(0), -1), (word_like(1), 0)))
        circuit = chain(200)
        state = plain_state(circuit)
        for k in range(200):
            node = (word_like(k), 0)
            if node in excited(circuit, {"a": 1}, state):
                state = stepped(circuit, {"a": 1}, state, node)
            if (word_like(k), -1) in excited(circuit, {"a": 1}, state):
                state = stepped(circuit, {"a": 1}, state, (word_like(k), -1))
        self.same([state[0], excited(circuit, {"a": 1}, state)], [(0, 1) * 100, ()])


class StateErrors(Case):
    def test_what_is_no_circuit(self):
        for value in odd_values():
            if value != (("a",), ()):
                self.refuses(InvalidCircuit, nodes, value)
                self.refuses(InvalidCircuit, is_state, value, None)
                self.refuses(InvalidCircuit, plain_state, value)
                self.refuses(InvalidCircuit, state_from, value, None)
                self.refuses(InvalidCircuit, bit_of, value, None, None)
                self.refuses(InvalidCircuit, wish_of, value, None, None, None)
                self.refuses(InvalidCircuit, excited, value, None, None)
                self.refuses(InvalidCircuit, stepped, value, None, None)
                self.refuses(InvalidCircuit, stepped_by, value, None, None, None)

    def test_what_is_no_setting(self):
        for value in odd_values() + [{"a": 2}]:
            if repr(value) not in ("{'a': 0}", "{'a': 1}"):
                self.refuses(InvalidSetting, wish_of, OSC, value, None, None)
                self.refuses(InvalidSetting, excited, OSC, value, None)
                self.refuses(InvalidSetting, stepped, OSC, value, None)
                self.refuses(InvalidSetting, stepped_by, OSC, value, None, None)
        for value in ({"a": 0}, {"a": 0, "c": 2}, {"a": 0, "c": 1, "p": 0}, {"a": False, "c": 1}):
            self.refuses(InvalidSetting, excited, CROSS, value, plain_state(CROSS))
            self.refuses(InvalidSetting, wish_of, CROSS, value, plain_state(CROSS), ("p", -1))
            self.refuses(InvalidSetting, stepped, CROSS, value, plain_state(CROSS), ("p", -1))

    def test_what_is_no_state(self):
        for value in odd_values() + [plain_state(CROSS)]:
            if repr(value) != "((0,), ((0, 0),))":
                self.refuses(InvalidState, bit_of, OSC, value, None)
                self.refuses(InvalidState, wish_of, OSC, {"a": 1}, value, None)
                self.refuses(InvalidState, excited, OSC, {"a": 1}, value)
                self.refuses(InvalidState, stepped, OSC, {"a": 1}, value)
                self.refuses(InvalidState, stepped_by, OSC, {"a": 1}, value, None)

    def test_what_is_no_node(self):
        for value in odd_values() + [("a", 0), ("a", -1), ("x", -2), ("y", 0), (["x"], 0), ("x", [0])]:
            if repr(value) not in ("('x', 0)", "('x', -1)", "('x', 1)"):
                self.same(self.refuses(UnknownName, bit_of, OSC, plain_state(OSC), value).name, value)
                self.same(self.refuses(UnknownName, wish_of, OSC, {"a": 1}, plain_state(OSC), value).name, value)

    def test_keys_of_settings_in_any_order(self):
        for a, c in all_rows((0, 1), 2):
            for state in states_of(CROSS, 16):
                self.same(excited(CROSS, {"a": a, "c": c}, state), excited(CROSS, {"c": c, "a": a}, state))

    def test_names_of_gates_like_inputs_of_others(self):
        circuit = circuit_from(("b",), {"a": ("not", "b"), "c": ("not", "a")})
        self.same(excited(circuit, {"b": 1}, plain_state(circuit)), (("a", -1), ("a", 0), ("c", -1)))
        self.same(gate_names(circuit), ("a", "c"))

    def test_arguments_stay(self):
        state = state_from(CROSS, {("p", -1): 1})
        setting = {"c": 0, "a": 1}
        self.pure(nodes, CROSS)
        self.pure(is_state, CROSS, state)
        self.pure(plain_state, CROSS, bit=1)
        self.pure(state_from, CROSS, {("u", 2): 1, ("p", -1): 1})
        self.pure(bit_of, CROSS, state, ("p", -1))
        self.pure(wish_of, CROSS, setting, state, ("p", -1))
        movers = self.pure(excited, CROSS, setting, state)
        self.pure(stepped, CROSS, setting, state, *movers)
        self.pure(stepped_by, CROSS, setting, state, movers)


if __name__ == "__main__":
    unittest.main()
