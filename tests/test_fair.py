"""Point 6.1: loops of steps, fair ones, and their flipping gates."""

import random
import unittest

from loopgates.circuits.circuits import make_circuit
from loopgates.errors import InvalidCircuit, InvalidSetting, InvalidStep
from loopgates.runs.fair import flipping_gates, is_fair_loop, is_step_loop
from loopgates.runs.flips import flipping_loop
from loopgates.runs.states import excited, nodes, plain_state, stepped_by
from tests.samples import (
    CROSS, Case, EMPTY, LUCKY, MIXED, OSC, TIE, all_rows, greatest, odd_values, random_circuit, settings_of, small_circuits)
from tests.slow_play import nodes_of, uneasy

X, X0, X1 = ("x", -1), ("x", 0), ("x", 1)
SWAP = (((0,), ((0, 1),)), ((X, X1), (X, X1)))


def judged(circuit, setting, state, steps):
    """Return None for what is no loop of steps, otherwise whether it is fair and the gates that move, by the words of 6.1."""
    moved, rested, now = set(), set(), state
    for step in steps:
        waiting = excited(circuit, setting, now)
        if not step or list(step) != sorted(set(step)) or not set(step) <= set(waiting):
            return None
        rested |= set(nodes(circuit)) - set(waiting)
        moved |= set(step)
        now = stepped_by(circuit, setting, now, step)
    if now != state or not steps:
        return None
    return moved | rested == set(nodes(circuit)), tuple(sorted(name for name, k in moved if k == -1))


class LoopCase(Case):
    """A test case that judges loops of steps."""

    def judge(self, circuit, setting, state, steps):
        """Check the three functions against the words of the document."""
        wanted = judged(circuit, setting, state, steps)
        self.same(is_step_loop(circuit, setting, (state, steps)), wanted is not None)
        self.same(is_fair_loop(circuit, setting, (state, steps)), wanted is not None and wanted[0])
        if wanted is None:
            self.refuses(InvalidStep, flipping_gates, circuit, setting, (state, steps))
        else:
            self.same(flipping_gates(circuit, setting, (state, steps)), wanted[1])
        return wanted


class Loops(LoopCase):
    def test_examples(self):
        state, steps = flipping_loop(OSC, {"a": 1})
        self.same(
            [len(steps), flipping_gates(OSC, {"a": 1}, (state, steps)), is_fair_loop(OSC, {"a": 1}, (state, steps + steps))],
            [4, ("x",), True])
        self.same(is_fair_loop(TIE, {"a": 0}, (((0,), ((0, 1),)), ((("x", -1), ("x", 1)), (("x", -1), ("x", 1))))), True)
        self.same([is_step_loop(TIE, {"a": 0}, SWAP), flipping_gates(TIE, {"a": 0}, SWAP)], [True, ("x",)])

    def test_parts_of_a_loop(self):
        state, steps = SWAP
        self.same(is_fair_loop(TIE, {"a": 0}, (state, steps * 5)), True)
        self.same(is_fair_loop(TIE, {"a": 0}, (((1,), ((0, 0),)), steps)), True)
        self.same(is_step_loop(TIE, {"a": 0}, (((1,), ((0, 1),)), steps)), False)
        self.same(is_step_loop(TIE, {"a": 0}, (((0,), ((0, 0),)), steps)), False)
        self.same([is_step_loop(TIE, {"a": 1}, SWAP), is_fair_loop(TIE, {"a": 1}, SWAP)], [True, False])
        self.same(is_step_loop(OSC, {"a": 0}, SWAP), False)
        for wrong in (
                steps[:1], steps * 3 + steps[:1], (), ((X1, X), (X, X1)), ((X, X1), (X1, X)), ((X, X, X1), (X, X1)), ((X, X1), ()),
                ((X,), (X, X1)), ((X1,), (X1,)), ((X, X1, ("x", True)), (X, X1)), ((X, ("x", True)), (X, X1)), ((X, X0, X1), (X, X1)),
                ((X, X1), [X, X1]), [(X, X1), (X, X1)], ((list(X), X1), (X, X1)), ((X, ("x", 2)), (X, X1)), ((X, ("y", 1)), (X, X1)),
                (X, X1), None, 0, "", {}, ((X, X1), None), ((X, None), (X, X1)), ((X, X1), (X, X1), 0), (((X, X1), (X, X1)),),
                ((("x", -2), X, X1), (X, X1)), ((X, X1), (X, X1, ("x", "1"))), ((None,), (X, X1))):
            self.same(is_step_loop(TIE, {"a": 0}, (state, wrong)), False, wrong)
            self.same(is_fair_loop(TIE, {"a": 0}, (state, wrong)), False, wrong)
            self.refuses(InvalidStep, flipping_gates, TIE, {"a": 0}, (state, wrong))

    def test_values_of_every_kind(self):
        state, steps = SWAP
        for value in odd_values() + [[state, steps], (state, steps, 0), (state,), (steps, state), list(SWAP), {0: state, 1: steps}]:
            self.same(is_step_loop(TIE, {"a": 0}, value), False, value)
            self.same(is_fair_loop(TIE, {"a": 0}, value), False, value)
            self.refuses(InvalidStep, flipping_gates, TIE, {"a": 0}, value)
            self.same(is_step_loop(TIE, {"a": 0}, (value, steps)), False, value)
            self.same(is_step_loop(TIE, {"a": 0}, (state, value)), False, value)
            self.same(is_step_loop(TIE, {"a": 0}, (state, (value,) + steps)), False, value)
            self.same(is_step_loop(TIE, {"a": 0}, (state, steps + ((value,),))), False, value)
        self.same(is_step_loop(TIE, {"a": 0}, (((0,), ((0, True),)), steps)), False)
        self.same(is_step_loop(TIE, {"a": 0}, (((False,), ((0, 1),)), steps)), False)

    def test_loops_that_are_not_fair(self):
        circuit = make_circuit(x=("not", "x"), y=("not", "y"))
        state = ((0, 0), ((0,), (0,)))
        around = ((("x", -1),), (("x", 0),), (("x", -1),), (("x", 0),))
        self.same([is_step_loop(circuit, {}, (state, around)), is_fair_loop(circuit, {}, (state, around))], [True, False])
        self.same(flipping_gates(circuit, {}, (state, around)), ("x",))
        both = tuple((("x", k), ("y", k)) for k in (-1, 0, -1, 0))
        self.same([is_fair_loop(circuit, {}, (state, both)), flipping_gates(circuit, {}, (state, both))], [True, ("x", "y")])
        circuit = make_circuit("a", w=("not", "a"), x=("not", "x"))
        around = ((("x", -1),), (("x", 0),)) * 2
        for a, fair in ((0, False), (1, True)):
            state = ((1 - a if fair else 0, 0), ((a,), (0,)))
            self.same(is_step_loop(circuit, {"a": a}, (state, around)), True)
            self.same(is_fair_loop(circuit, {"a": a}, (state, around)), fair)
        state = ((0, 0), ((0,), (0,)))
        self.same([is_step_loop(circuit, {"a": 1}, (state, around)), is_fair_loop(circuit, {"a": 1}, (state, around))], [True, False])

    def test_gates_that_rest_only_in_the_middle(self):
        circuit = make_circuit(x=("not", "x"), y=("buffer", "x"), z=("and", "x", "x"))
        for y, z in all_rows((0, 1), 2):
            state = ((1, y, z), ((1,), (1,), (1, 1)))
            gate, wires = (("x", -1),), (("x", 0), ("y", 0), ("z", 0), ("z", 1))
            self.same(self.judge(circuit, {}, state, (gate, wires) * 2), (True, ("x",)))
            self.same(self.judge(circuit, {}, state, (gate, wires) * 6), (True, ("x",)))
            self.same(self.judge(circuit, {}, state, (gate, wires[:2]) * 2), (z == 1, ("x",)))
            self.same(self.judge(circuit, {}, state, (gate, wires[:1] + wires[2:]) * 2), (y == 1, ("x",)))
            self.same(self.judge(circuit, {}, state, (gate, wires[:3]) * 2), (True, ("x",)))

    def test_only_wires_move(self):
        circuit = make_circuit(x=("xor", "x", "x"))
        for row in all_rows((0, 1), 3):
            state = ((row[0],), (row[1:],))
            for first in all_rows((0, 1), 3):
                for second in all_rows((0, 1), 3):
                    steps = tuple(tuple(node for node, k in zip((X, X0, X1), chosen) if k) for chosen in (first, second))
                    self.judge(circuit, {}, state, steps)

    def test_runs_by_chance(self):
        found = [0, 0, 0]
        for number, circuit in enumerate(small_circuits(50, 1, 3) + [LUCKY, OSC, TIE, CROSS]):
            dice = random.Random(number)
            for setting in settings_of(circuit, (0, 1)):
                for turn in range(9):
                    state = (tuple(dice.randint(0, 1) for _ in circuit[1]), tuple(
                        tuple(dice.randint(0, 1) for _ in sources) for _, sources, _ in circuit[1]))
                    now, seen, steps = state, {state: 0}, []
                    for _ in range(40):
                        waiting = excited(circuit, setting, now)
                        if not waiting:
                            break
                        # Without the last excited nodes, runs are seldom fair.
                        some = waiting[:2] if turn % 3 else waiting
                        steps.append(tuple(sorted(dice.sample(some, dice.randint(1, len(some))))))
                        now = stepped_by(circuit, setting, now, steps[-1])
                        if now in seen:
                            loop = tuple(steps[seen[now]:])
                            wanted = self.judge(circuit, setting, now, loop)
                            found[0 if wanted is None else 1 + wanted[0]] += 1
                            at = dice.randrange(len(loop))
                            self.judge(circuit, setting, now, loop[:at] + loop[at + 1:])
                            self.judge(circuit, setting, now, loop[:at] + (loop[at][1:],) + loop[at + 1:])
                            self.judge(circuit, setting, now, loop[:at] + (loop[at][::-1],) + loop[at + 1:])
                            self.judge(circuit, setting, now, loop + loop)
                            break
                        seen[now] = len(steps)
        self.assertEqual(found[0], 0)
        self.assertTrue(found[1] > 5 and found[2] > 5, found)

    def test_no_gates(self):
        self.same([is_step_loop(EMPTY, {}, (((), ()), ())), is_fair_loop(EMPTY, {}, (((), ()), ((),)))], [False, False])


class Errors(Case):
    def test_circuits_and_settings_first(self):
        for call in (is_step_loop, is_fair_loop, flipping_gates):
            for value in odd_values():
                if value != (("a",), ()):
                    self.refuses(InvalidCircuit, call, value, None, None)
                if repr(value) not in ("{'a': 0}", "{'a': 1}"):
                    self.refuses(InvalidSetting, call, OSC, value, None)
            self.refuses(InvalidSetting, call, OSC, {"a": 2}, None)
            self.refuses(InvalidSetting, call, CROSS, {"a": 0}, SWAP)

    def test_arguments_stay(self):
        setting = {"c": 1, "a": 0}
        self.same(self.pure(is_step_loop, CROSS, setting, (plain_state(CROSS), ())), False)
        self.same(self.pure(is_fair_loop, TIE, {"a": 0}, SWAP), True)
        self.same(self.pure(flipping_gates, TIE, {"a": 0}, SWAP), ("x",))

    def test_great_loops(self):
        circuit = greatest()
        setting = {name: 1 for name in circuit[0]}
        loop = flipping_loop(circuit, setting)
        if loop:
            self.same(is_fair_loop(circuit, setting, loop), True)
        circuit = random_circuit(5, 0, 150, 3)
        self.same(len(uneasy(circuit, {}, {node: 0 for node in nodes_of(circuit)})), len(excited(circuit, {}, plain_state(circuit))))
        self.same(is_step_loop(MIXED, {"a": 1, "b": 1}, (plain_state(MIXED), ((),))), False)


if __name__ == "__main__":
    unittest.main()
