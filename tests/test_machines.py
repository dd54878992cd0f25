"""Points 15.1 and 15.2: machines, their ticks, and runners."""

import random
import unittest

from loopgates.circuits.circuits import circuit_from, gate_names, make_circuit
from loopgates.errors import (
    Flipping, InvalidCircuit, InvalidMachine, InvalidNumber, InvalidRow, NothingToUndo)
from loopgates.machines import machines
from loopgates.machines.machines import Runner, is_machine, machine_from, make_machine, outputs_of, tick
from loopgates.machines.reach import is_machine_paper
from loopgates.runs.fair import is_fair_loop
from tests import oracle
from tests.samples import CROSS, Case, EMPTY, MIXED, OSC, TIE, all_rows, odd_values, random_circuit, replaced

TURN = make_machine(make_circuit("e", "s", n=("xor", "e", "s")), {"s": ("n", 0)}, q="s")
FLIP = make_machine(TIE, {}, x="x")
# It flips where its register is 0 and its input is 0; other gates never settle.
SOME = make_machine(make_circuit("a", "r", x=("or", "a", "r", "x"), y=("not", "y"), n=("not", "a")), {"r": ("n", 1)}, p="x", q="a")


def inputs_of(machine):
    """Return the inputs of a machine."""
    return tuple(name for name in machine[0][0] if name not in [name for name, _, _ in machine[1]])


def defined(machine, state, row):
    """Return the result of a tick by the words of 15.2."""
    circuit, registers, outputs = machine
    setting = {**{name: bit for (name, _, _), bit in zip(registers, state)}, **dict(zip(inputs_of(machine), row))}
    values = {**setting, **oracle.known(circuit, setting)}
    after = tuple(values[source] for _, source, _ in registers)
    shown = tuple(values[name] for _, name in outputs)
    return None if 2 in after + shown else (shown, after)


def some_machine(seed, most_inputs=2, most_registers=3):
    """Return a machine by chance, the same one for the same seed."""
    dice = random.Random(seed)
    many, own = dice.randint(0, most_inputs), dice.randint(0, most_registers)
    circuit = random_circuit(seed, many + own, dice.randint(1, 6), 3)
    names = [*circuit[0], *gate_names(circuit)]
    registers = {name: (dice.choice(names), dice.randint(0, 1)) for name in dice.sample(list(circuit[0]), own)}
    return machine_from(circuit, registers, {port: dice.choice(names) for port in dice.sample("pqrstuv", dice.randint(1, 3))})


def counter(many, *, told=None):
    """Return a machine that counts up by one where its input is 1, with so many registers, and tells if all are 1."""
    names = "abcdefghijk"[:many]
    gates = {"zz": ("buffer", "z")}
    for k, name in enumerate(names):
        carry = "c" + names[k - 1] if k else "zz"
        gates["n" + name] = ("xor", name, carry)
        gates["c" + name] = ("and", name, carry)
        gates["t" + name] = ("and", name, "t" + names[k - 1]) if k else ("buffer", name)
    circuit = circuit_from((*names, "z"), gates)
    return machine_from(circuit, {name: ("n" + name, 0) for name in names}, {"q": told or "t" + names[-1]})


def shown(runner):
    """Return all that can be asked of a runner."""
    return (runner.machine, runner.state, runner.history, len(runner))


class Forms(Case):
    def test_made_machines(self):
        self.same(machines.MAX_REGISTERS, 11)
        self.same(TURN, (make_circuit("e", "s", n=("xor", "e", "s")), (("s", "n", 0),), (("q", "s"),)))
        self.same(machine_from(CROSS, {"c": ("a", 1), "a": ("u", 0)}, {"z": "p", "or": "a"}), (
            CROSS, (("a", "u", 0), ("c", "a", 1)), (("or", "a"), ("z", "p"))))
        self.same(self.pure(machine_from, CROSS, {"c": ("a", 1), "a": ("u", 0)}, {"z": "p", "or": "a"}), make_machine(
            CROSS, {"a": ("u", 0), "c": ("a", 1)}, **{"or": "a", "z": "p"}))
        self.same(make_machine(make_circuit("a"), {"a": ("a", 1)}, x="a"), (make_circuit("a"), (("a", "a", 1),), (("x", "a"),)))
        self.same(machine_from(TIE, {}, {"circuit": "x", "self": "a"}), (TIE, (), (("circuit", "x"), ("self", "a"))))
        for seed in range(30):
            self.same(is_machine(some_machine(seed)), True)

    def test_limits(self):
        circuit = make_circuit(*"abcdefghijkl", x=("and", "a", "l"))
        eleven = {name: ("x", 0) for name in "abcdefghijk"}
        self.same(len(make_machine(circuit, eleven, x="x")[1]), 11)
        self.refuses(InvalidMachine, make_machine, circuit, {name: ("x", 0) for name in "abcdefghijkl"}, x="x")
        twelve = (circuit, tuple((name, "x", 0) for name in "abcdefghijkl"), (("x", "x"),))
        self.same([is_machine(twelve), is_machine((circuit, twelve[1][:11], twelve[2]))], [False, True])
        six = {port: "x" for port in "abcdef"}
        self.same(len(machine_from(circuit, {}, six)[2]), 6)
        self.refuses(InvalidMachine, machine_from, circuit, {}, {**six, "g": "x"})
        self.refuses(InvalidMachine, make_machine, circuit, {})

    def test_what_is_no_machine(self):
        circuit, registers, outputs = TURN
        for value in odd_values() + [
                list(TURN), TURN[:2], TURN + (0,), (circuit, [("s", "n", 0)], outputs), (circuit, (["s", "n", 0],), outputs), (circuit, (("s", "n"),), outputs),
                (circuit, (("s", "n", 0, 0),), outputs), (circuit, (("s", "n", 2),), outputs), (circuit, (("s", "n", True),), outputs),
                (circuit, (("s", "m", 0),), outputs), (circuit, (("n", "s", 0),), outputs), (circuit, (("S", "n", 0),), outputs), (circuit, (("s", 1, 0),), outputs),
                (circuit, ((1, "n", 0),), outputs), (circuit, (("s", "n", 0), ("e", "n", 0)), outputs), (circuit, (("s", "n", 0), ("s", "n", 0)), outputs),
                (circuit, (("s", "e", 0), ("s", "n", 1)), outputs), (circuit, {"s": ("n", 0)}, outputs), (circuit, None, outputs), (circuit, (None,), outputs),
                (circuit, registers, ()), (circuit, registers, (("q", "m"),)), (circuit, registers, [("q", "s")]), (circuit, registers, (("Q", "s"),)),
                (circuit, registers, (("q", "s"), ("p", "s"))), (circuit, registers, (("q", "s"), ("q", "n"))), (circuit, registers, None), (None, registers, outputs),
                (circuit, (("s", ["n"], 0),), outputs), (circuit, ((["s"], "n", 0),), outputs), (EMPTY, registers, outputs)]:
            self.same(is_machine(value), False, value)
            self.refuses(InvalidMachine, tick, value, None, None)
            self.refuses(InvalidMachine, outputs_of, value, None)
            self.refuses(InvalidMachine, Runner, value)
        for item in (True, False, None, 2, "0"):
            for value in replaced(TURN, item):
                self.same(is_machine(value), False, value)

    def test_wrong_arguments(self):
        circuit = TURN[0]
        for value in odd_values():
            if value != (("a",), ()):
                self.refuses(InvalidCircuit, machine_from, value, None, None)
                self.refuses(InvalidCircuit, make_machine, value, {}, x="a")
            if repr(value) != "{}":
                self.refuses(InvalidMachine, machine_from, circuit, value, {"q": "s"})
            self.refuses(InvalidMachine, machine_from, circuit, {}, value)
            self.refuses(InvalidMachine, make_machine, circuit, {"s": value}, q="s")
            if value not in ("e", "s", "n"):
                self.refuses(InvalidMachine, make_machine, circuit, {}, q=value)
                self.refuses(InvalidMachine, make_machine, circuit, {"s": (value, 0)}, q="s")
            if not (type(value) is int and value in (0, 1)):
                self.refuses(InvalidMachine, make_machine, circuit, {"s": ("n", value)}, q="s")
        for registers in ({"n": ("s", 0)}, {"x": ("s", 0)}, {1: ("s", 0)}, {None: ("s", 0), "s": ("n", 0)}, {("s",): ("n", 0)}, {"s": ("n", 0, 0)},
                          {"s": ["n", 0]}, {"s": ("n",)}, {"S": ("n", 0)}, [("s", ("n", 0))]):
            self.refuses(InvalidMachine, make_machine, circuit, registers, q="s")
        for outputs in ({}, {1: "s"}, {None: "s", "q": "s"}, {"Q": "s"}, {"": "s"}, {"q": "m"}, {"q": ["s"]}, {("q",): "s"}):
            self.refuses(InvalidMachine, machine_from, circuit, {}, outputs)


class Ticks(Case):
    def test_examples(self):
        self.same([tick(TURN, (0,), (1,)), outputs_of(TURN, ((1,), (1,), (0,)))], [((0,), (1,)), ((0,), (1,), (0,))])

    def test_against_the_words(self):
        found = [0, 0]
        for seed in range(150):
            machine = some_machine(seed)
            for state in all_rows((0, 1), len(machine[1])):
                for row in all_rows((0, 1), len(inputs_of(machine))):
                    wanted = defined(machine, state, row)
                    self.same(tick(machine, state, row), wanted)
                    found[wanted is None] += 1
        self.assertTrue(min(found) > 50, found)

    def test_other_gates_need_not_settle(self):
        self.same([tick(SOME, (1,), (0,)), tick(SOME, (0,), (1,)), tick(SOME, (0,), (0,))], [((1, 0), (1,)), ((1, 1), (0,)), None])
        self.same([tick(FLIP, (), (1,)), tick(FLIP, (), (0,))], [((1,), ()), None])

    def test_few_parts(self):
        still = make_machine(make_circuit("r", x=("not", "r")), {"r": ("x", 1)}, q="r")
        self.same([tick(still, (1,), ()), tick(still, (0,), ()), outputs_of(still, ((),) * 3)], [((1,), (0,)), ((0,), (1,)), ((1,), (0,), (1,))])
        none = make_machine(make_circuit(x=("one",)), {}, q="x")
        self.same([tick(none, (), ()), outputs_of(none, ((), ())), outputs_of(none, ())], [((1,), ()), ((1,), (1,)), ()])
        shift = make_machine(make_circuit("a", "b", "c"), {"b": ("a", 0), "c": ("b", 1), "a": ("a", 1)}, q="c", r="a")
        self.same([tick(shift, (1, 0, 1), ()), outputs_of(shift, ((),) * 3)], [((1, 1), (1, 1, 0)), ((1, 1), (0, 1), (1, 1))])
        self.same([tick(counter(11), (1,) * 11, (1,)), tick(counter(11), (1,) * 11, (0,))], [((1,), (0,) * 11), ((1,), (1,) * 11)])

    def test_histories(self):
        for seed in range(120):
            machine = some_machine(seed)
            dice = random.Random(seed)
            rows = all_rows((0, 1), len(inputs_of(machine)))
            history = tuple(dice.choice(rows) for _ in range(12))
            state, wanted = tuple(bit for _, _, bit in machine[1]), []
            for at, row in enumerate(history):
                found = defined(machine, state, row)
                if found is None:
                    paper = self.refuses(Flipping, outputs_of, machine, history).paper
                    self.same([paper[:2], is_machine_paper(machine, paper)], [("flips", history[:at + 1]), True])
                    break
                wanted.append(found[0])
                state = found[1]
            else:
                self.same(self.pure(outputs_of, machine, history), tuple(wanted))

    def test_rows(self):
        for value in odd_values() + [(0, 0), (), [0], (2,), (True,)]:
            if repr(value) not in ("(0,)", "(1,)"):
                self.refuses(InvalidRow, tick, TURN, value, (0,))
                self.refuses(InvalidRow, tick, TURN, (0,), value)
                self.refuses(InvalidRow, outputs_of, TURN, ((0,), value))
                self.refuses(InvalidRow, outputs_of, FLIP, ((0,), value))
            if value != ():
                self.refuses(InvalidRow, outputs_of, TURN, value)
        self.refuses(InvalidRow, outputs_of, TURN, [(0,)])
        self.refuses(InvalidRow, tick, TURN, None, None)


class Runners(Case):
    def test_ticks(self):
        runner = Runner(TURN)
        self.same(shown(runner), (TURN, (0,), (), 0))
        self.same([runner((1,)), runner((0,)), runner((1,))], [(0,), (1,), (1,)])
        self.same(shown(runner), (TURN, (0,), ((1,), (0,), (1,)), 3))
        self.same([runner.back(), runner.state, runner.back(many=0), runner.back(many=2), shown(runner)], [2, (1,), 2, 0, (TURN, (0,), (), 0)])

    def test_assigned_states(self):
        runner = Runner(TURN)
        runner((1,))
        runner.state = (1,)
        self.same([shown(runner), self.refuses(NothingToUndo, runner.back).many], [(TURN, (1,), (), 0), 1])
        runner((1,))
        self.same([runner.set_state((0,)), shown(runner)], [None, (TURN, (0,), (), 0)])
        runner((1,))
        before = shown(runner)
        for value in odd_values() + [(0, 0), (), [0], (2,), (True,), (False,)]:
            if repr(value) not in ("(0,)", "(1,)"):
                self.refuses(InvalidRow, runner.set_state, value)
                with self.assertRaises(InvalidRow):
                    runner.state = value
                self.refuses(InvalidRow, runner, value)
                self.same(shown(runner), before)

    def test_ticks_that_flip(self):
        runner = Runner(SOME)
        self.same([runner((0,)), runner((1,))], [(1, 0), (1, 1)])
        before = shown(runner)
        paper = self.refuses(Flipping, runner, (0,)).paper
        self.same([shown(runner), paper[:2], is_machine_paper(SOME, paper)], [before, ("flips", ((0,), (1,), (0,))), True])
        self.same([runner((1,)), len(runner), runner.back(many=3), runner((1,))], [(1, 1), 3, 0, (1, 1)])
        runner.state = (0,)
        paper = self.refuses(Flipping, runner, (0,)).paper
        begun = machine_from(SOME[0], {"r": ("n", 0)}, dict(SOME[2]))
        self.same([paper[:2], is_machine_paper(SOME, paper), is_machine_paper(begun, paper)], [("flips", ((0,),)), False, True])
        self.same(is_fair_loop(SOME[0], {"a": 0, "r": 0}, paper[2]), True)
        runner((1,))
        self.same(self.refuses(Flipping, runner, (0,)).paper[1], ((1,), (0,)))
        self.same(shown(runner), (SOME, (0,), ((1,),), 1))

    def test_walks(self):
        runner = Runner(TURN)
        walk = runner.ticks(((1,), (1,), (0,)))
        self.same([shown(runner), next(walk), shown(runner)], [(TURN, (0,), (), 0), (0,), (TURN, (1,), ((1,),), 1)])
        self.same([runner((1,)), next(walk), runner.history, next(walk, None), next(walk, None)], [(1,), (0,), ((1,),) * 3, (1,), None])
        self.same([runner.history, list(runner.ticks(()))], [((1,), (1,), (1,), (0,)), []])
        runner = Runner(SOME)
        walk = runner.ticks(((0,), (1,), (0,), (1,)))
        self.same([next(walk), next(walk)], [(1, 0), (1, 1)])
        self.same(self.refuses(Flipping, next, walk).paper[1], ((0,), (1,), (0,)))
        self.same([runner.history, list(walk)], [((0,), (1,)), []])
        for value in (None, [(0,)], ((0,), (2,)), ((0,), [0]), (0,), ((0,), (True,)), "", {}):
            runner.ticks(value)
            self.refuses(InvalidRow, next, runner.ticks(value))
        self.same(runner.history, ((0,), (1,)))

    def test_back(self):
        runner = Runner(TURN)
        list(runner.ticks(((1,),) * 5))
        before = shown(runner)
        for value in odd_values() + [True, -1]:
            if not (type(value) is int and value >= 0):
                self.same(self.refuses(InvalidNumber, runner.back, many=value).value, value)
        for many in (6, 7, 10 ** 39):
            self.same(self.refuses(NothingToUndo, runner.back, many=many).many, many)
        self.same([shown(runner), runner.back(many=5), shown(runner), runner.back(many=0)], [before, 0, (TURN, (0,), (), 0), 0])

    def test_twins_and_equality(self):
        runner = Runner(TURN)
        list(runner.ticks(((1,), (0,))))
        twin = runner.twin()
        self.same([shown(twin), runner == twin], [shown(runner), True])
        twin((1,))
        self.same([runner == twin, twin.back(many=3), runner.history, runner != twin], [False, 0, ((1,), (0,)), True])
        runner.back(many=2)
        self.same([runner == twin, Runner(TURN) == twin, Runner(FLIP) == twin], [True, True, False])
        other = Runner(machine_from(TURN[0], {"s": ("n", 1)}, {"q": "s"}))
        other.state = (0,)
        self.same(other == twin, False)
        twin.state = (1,)
        self.same([runner.state, twin.state], [(0,), (1,)])
        for value in odd_values() + [TURN, runner.state]:
            self.same([runner == value, value == runner, runner != value], [False, False, True])
        for call in (iter, list, tuple, sorted):
            self.refuses(TypeError, call, runner)
        for name in ("machine", "history"):
            with self.assertRaises(AttributeError):
                setattr(runner, name, None)

    def test_any_deeds_against_the_words(self):
        for seed in range(80):
            machine = some_machine(seed)
            dice = random.Random(seed)
            rows = all_rows((0, 1), len(inputs_of(machine)))
            runner = Runner(machine)
            state = tuple(bit for _, _, bit in machine[1])
            passed = [(state, None)]
            for _ in range(25):
                kind = dice.randint(0, 7)
                if kind == 0:
                    state = dice.choice(all_rows((0, 1), len(machine[1])))
                    runner.state = state
                    passed = [(state, None)]
                elif kind == 1:
                    many = dice.randint(0, len(passed) - 1)
                    self.same(runner.back(many=many), len(passed) - 1 - many)
                    del passed[len(passed) - many:]
                else:
                    row = dice.choice(rows)
                    found = defined(machine, passed[-1][0], row)
                    if found is None:
                        paper = self.refuses(Flipping, runner, row).paper
                        first = {name: (source, bit) for (name, source, _), bit in zip(machine[1], passed[0][0])}
                        self.same(is_machine_paper(machine_from(machine[0], first, dict(machine[2])), paper), True)
                        self.same(paper[1], tuple(row for _, row in passed[1:]) + (row,))
                    else:
                        self.same(runner(row), found[0])
                        passed.append((found[1], row))
                self.same(shown(runner), (machine, passed[-1][0], tuple(row for _, row in passed[1:]), len(passed) - 1))

    def test_thousands_of_ticks(self):
        runner = Runner(counter(11))
        for k in range(3000):
            self.assertEqual(runner((1,)), (int(k % 2048 == 2047),))
            self.assertEqual(len(runner.history), k + 1)
        self.same([runner.state, runner.back(many=3000)], [tuple((3000 - 2048) >> k & 1 for k in range(11)), 0])
        for _ in range(2000):
            self.assertEqual(tick(TURN, (1,), (1,)), ((1,), (0,)))
        self.same(len(outputs_of(TURN, ((1,),) * 5000)), 5000)
        self.same(is_machine((MIXED, (), (("p", "h"),))), True)
        self.refuses(Flipping, outputs_of, (MIXED, (), (("p", "h"),)), ((0, 0),))
        self.refuses(Flipping, Runner(make_machine(OSC, {}, x="x")), (1,))


if __name__ == "__main__":
    unittest.main()
