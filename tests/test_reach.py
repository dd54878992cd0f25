"""Point 15.3: what machines reach, and machine papers."""

import random
import unittest

from loopgates.circuits.circuits import circuit_from, make_circuit
from loopgates.errors import InvalidMachine
from loopgates.machines.machines import machine_from, make_machine, outputs_of
from loopgates.machines.reach import is_machine_paper, machine_paper, reached_states, shortest_flip
from loopgates.runs.flips import flipping_loop
from tests.samples import Case, OSC, TIE, all_rows, odd_values, replaced
from tests.test_machines import FLIP, SOME, TURN, counter, defined, inputs_of, some_machine

# It flips when all its registers are 1.
LATE = machine_from(
    circuit_from(("a", "b", "z"), {
        "m": ("xor", "a", "z"), "n": ("xor", "b", "c"), "c": ("and", "a", "z"), "x": ("nand", "a", "b", "x")}),
    {"a": ("m", 0), "b": ("n", 0)}, {"q": "x"})


def begun(machine):
    """Return the first register state."""
    return tuple(bit for _, _, bit in machine[1])


def reached(machine, most=12):
    """Return the list of the reached states with their first histories, and the first history that flips, by trying all."""
    rows = all_rows((0, 1), len(inputs_of(machine)))
    layer, found, flip = [((), begun(machine))], {begun(machine): ()}, None
    for _ in range(most):
        further = []
        for history, state in layer:
            for row in rows:
                result = defined(machine, state, row)
                if result is None:
                    flip = flip or history + (row,)
                elif result[1] not in found:
                    found[result[1]] = history + (row,)
                    further.append((history + (row,), result[1]))
        layer = further
    return list(found.items()), flip


class Reached(Case):
    def test_examples(self):
        self.same([machine_paper(TURN), shortest_flip(make_machine(TIE, {}, x="x"))], [("settles", ((0,), (1,))), ((0,),)])
        self.same(list(reached_states(TURN)), [((0,), ()), ((1,), ((1,),))])

    def test_against_all_histories(self):
        kinds = [0, 0]
        for seed in range(150):
            machine = some_machine(seed)
            wanted, flip = reached(machine)
            self.same(list(reached_states(machine)), wanted)
            self.same(self.pure(shortest_flip, machine), flip)
            paper = self.pure(machine_paper, machine)
            self.same(is_machine_paper(machine, paper), True)
            if flip is None:
                self.same(paper, ("settles", tuple(sorted(state for state, _ in wanted))))
            else:
                self.same([paper[:2], len(paper)], [("flips", flip), 3])
            kinds[flip is None] += 1
        self.assertTrue(min(kinds) > 20, kinds)

    def test_flips_late(self):
        self.same(list(reached_states(LATE)), [
            ((0, 0), ()), ((1, 0), ((1,),)), ((0, 1), ((1,), (1,))), ((1, 1), ((1,), (1,), (1,)))])
        self.same(shortest_flip(LATE), ((1,), (1,), (1,), (0,)))
        self.same(machine_paper(LATE)[:2], ("flips", ((1,), (1,), (1,), (0,))))
        self.same([shortest_flip(FLIP), shortest_flip(SOME), shortest_flip(make_machine(OSC, {}, x="x"))], [((0,),), ((1,), (0,)), ((1,),)])

    def test_histories_with_unlike_rows(self):
        circuit = make_circuit("z", "a", "b", "c", k=("not", "a"), m=("nand", "k", "b", "c", "x"), x=("and", "m", "z"))
        machine = make_machine(circuit, {"a": ("z", 0), "b": ("a", 0), "c": ("b", 0)}, q="x")
        self.same(shortest_flip(machine), ((1,), (1,), (0,), (1,)))
        self.same(machine_paper(machine)[1], ((1,), (1,), (0,), (1,)))
        self.same(is_machine_paper(machine, machine_paper(machine)), True)
        self.same(dict(reached_states(machine))[(0, 1, 1)], ((1,), (1,), (0,)))

    def test_flips_only_where_it_never_comes(self):
        circuit = make_circuit("r", "z", k=("and", "r", "z"), x=("nand", "r", "x"))
        never = make_machine(circuit, {"r": ("k", 0)}, q="x")
        self.same([machine_paper(never), shortest_flip(never), list(reached_states(never))], [("settles", ((0,),)), None, [((0,), ())]])
        self.same([is_machine_paper(never, ("settles", ((0,), (1,)))), is_machine_paper(never, ("settles", ((1,),)))], [False, False])

    def test_counters(self):
        for many in (1, 2, 5):
            machine = counter(many)
            found = list(reached_states(machine))
            self.same([[state[::-1] for state, _ in found], [history for _, history in found]], [
                all_rows((0, 1), many), [((1,),) * k for k in range(2 ** many)]])
            self.same(machine_paper(machine), ("settles", tuple(all_rows((0, 1), many))))
        machine = counter(11)
        found = list(reached_states(machine))
        self.same([len(found), found[-1], found[1000][1]], [2048, ((1,) * 11, ((1,),) * 2047), ((1,),) * 1000])
        self.same([is_machine_paper(machine, machine_paper(machine)), shortest_flip(machine)], [True, None])

    def test_few_parts(self):
        none = make_machine(make_circuit(x=("one",)), {}, q="x")
        self.same([list(reached_states(none)), machine_paper(none), shortest_flip(none)], [[((), ())], ("settles", ((),)), None])
        still = make_machine(make_circuit("r", "s", x=("not", "s")), {"r": ("r", 1), "s": ("r", 0)}, q="x")
        self.same([list(reached_states(still)), machine_paper(still)], [[((1, 0), ()), ((1, 1), ((),))], ("settles", ((1, 0), (1, 1)))])
        wide = make_machine(make_circuit(*"abcdefghijkl", x=("nand", "a", "l", "x")), {}, q="x")
        self.same([shortest_flip(wide), machine_paper(wide)[0]], [((1,) + (0,) * 10 + (1,),), "flips"])
        idle = make_machine(make_circuit(*"abcdefghijkl"), {"c": ("d", 1)}, q="c")
        self.same([state for state, _ in reached_states(idle)], [(1,), (0,)])

    def test_in_part_and_again(self):
        walk, other = reached_states(counter(3)), reached_states(counter(3))
        self.same([next(walk), next(walk), next(other), next(walk)[0], next(other)[0]], [
            ((0, 0, 0), ()), ((1, 0, 0), ((1,),)), ((0, 0, 0), ()), (0, 1, 0), (1, 0, 0)])
        self.same([len(list(walk)), len(list(other))], [5, 6])
        reached_states(None)
        for value in odd_values():
            self.refuses(InvalidMachine, next, reached_states(value))
            self.refuses(InvalidMachine, machine_paper, value)
            self.refuses(InvalidMachine, shortest_flip, value)
            self.refuses(InvalidMachine, is_machine_paper, value, None)


class Papers(Case):
    def test_other_right_papers(self):
        self.same(is_machine_paper(TURN, ("settles", ((0,), (1,)))), True)
        shift = make_machine(make_circuit("a", "b"), {"b": ("b", 0)}, q="b")
        for states, right in ((((0,),), True), (((0,), (1,)), True), (((1,),), False), ((), False), (((1,), (0,)), False)):
            self.same(is_machine_paper(shift, ("settles", states)), right, states)
        machine = make_machine(TIE, {}, x="x")
        for history, a, right in ((((0,),), 0, True), (((1,), (0,)), 0, True), (((1,), (1,), (0,)), 0, True), (((1,),), 0, False),
                                  (((0,), (0,)), 0, False), ((), 0, False)):
            self.same(is_machine_paper(machine, ("flips", history, flipping_loop(TIE, {"a": a}))), right, history)
        swap = (((0,), ((0, 1),)), ((("x", -1), ("x", 1)), (("x", -1), ("x", 1))))
        self.same(is_machine_paper(machine, ("flips", ((1,), (0,)), swap)), True)
        self.same(is_machine_paper(machine, ("flips", ((0,), (0,)), swap)), False)
        self.same(is_machine_paper(machine, ("flips", ((0,),), (swap[0], swap[1] * 3))), True)

    def test_loops_that_move_other_gates(self):
        loop = flipping_loop(SOME[0], {"a": 1, "r": 1})
        self.same(is_machine_paper(SOME, ("flips", ((1,),), loop)), False)
        circuit = make_circuit("a", x=("xor", "x", "a"), y=("xor", "y", "a"))
        machine = make_machine(circuit, {}, q="y")
        for setting in ({"a": 0}, {"a": 1}):
            history = ((setting["a"],),)
            both = flipping_loop(circuit, setting)
            self.same(is_machine_paper(machine, ("flips", history, both)), True)
            for still, right in (("x", True), ("y", False)):
                state, steps = both
                kept = {name: {node for step in steps for node in step if node[0] == name} for name in "xy"}
                only = tuple(step for step in (tuple(node for node in step if node not in kept[still]) for step in steps) if step)
                self.same(is_machine_paper(machine, ("flips", history, (state, only))), False, (still, right))

    def test_values_of_every_kind(self):
        for machine in (TURN, SOME, FLIP, LATE, counter(2)):
            paper = machine_paper(machine)
            self.same(is_machine_paper(machine, paper), True)
            for value in odd_values() + [list(paper), paper[:1], paper + (0,), (paper,), machine, ("settles",), ("flips", ()), ("settles", ()), ("flips", (), ()),
                                         (None,) + paper[1:], ("Settles",) + paper[1:], ("settles", paper[1], ()), ("derived",) + paper[1:]]:
                self.same(is_machine_paper(machine, value), False, value)
            for value in odd_values():
                self.same(is_machine_paper(machine, (paper[0], value)), False, value)
                self.same(is_machine_paper(machine, (value, *paper[1:])), False, value)
                self.same(is_machine_paper(machine, (paper[0], paper[1], value)), False, value)
                if repr(value) not in ("(0,)", "(1,)"):
                    self.same(is_machine_paper(machine, (paper[0], paper[1] + (value,), *paper[2:])), False, value)
                    self.same(is_machine_paper(machine, (paper[0], (value, *paper[1]), *paper[2:])), False, value)
            for item in (True, False, None, 2, "0", 7):
                for value in replaced(paper, item):
                    self.same(is_machine_paper(machine, value), repr(value) == repr(paper), value)

    def test_papers_of_one_kind(self):
        dice = random.Random(3)
        for seed in range(80):
            machine = some_machine(seed)
            paper = machine_paper(machine)
            states = tuple(sorted(dice.sample(all_rows((0, 1), len(machine[1])), dice.randint(1, 2 ** len(machine[1])))))
            wanted = begun(machine) in states and all(
                result is not None and result[1] in states for state in states for row in all_rows((0, 1), len(inputs_of(machine)))
                for result in [defined(machine, state, row)])
            self.same(is_machine_paper(machine, ("settles", states)), wanted)
            self.assertFalse(wanted and paper[0] == "flips")
            if paper[0] == "settles":
                rows = all_rows((0, 1), len(inputs_of(machine)))
                history = tuple(dice.choice(rows) for _ in range(4))
                self.same(len(outputs_of(machine, history)), 4)

    def test_small_questions_by_the_thousand(self):
        for _ in range(1000):
            self.assertEqual(machine_paper(TURN), ("settles", ((0,), (1,))))
            self.assertTrue(is_machine_paper(TURN, ("settles", ((0,), (1,)))))
            self.assertEqual(shortest_flip(FLIP), ((0,),))


if __name__ == "__main__":
    unittest.main()
