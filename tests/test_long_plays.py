"""Points 5.1, 6.1 and 7.1 at great numbers: long turns and rushes, long loops of steps, all states of small circuits."""

import itertools
import random
import unittest
import unittest.mock

from loopgates.circuits.circuits import circuit_from, make_circuit
from loopgates.errors import InvalidNumber, InvalidSetting, InvalidStep, NothingToUndo, TooMany
from loopgates.runs.fair import flipping_gates, is_fair_loop, is_step_loop
from loopgates.runs.flips import flipping_loop
from loopgates.runs.force import lasting_bits, lasting_states, rest_states
from loopgates.runs.motion import WIRE_BITS, by_digits
from loopgates.runs.plays import Play
from loopgates.runs.states import excited, nodes, plain_state, state_from
from loopgates.settling.known import known_values
from tests.samples import (
    CROSS, Case, EMPTY, LUCKY, MIXED, OSC, TIE, all_rows, odd_values, random_circuit, ring, settings_of, small_circuits, word_like)
from tests.slow_play import as_state, nodes_of, uneasy, wishes_of
from tests.test_fair import LoopCase
from tests.test_force import lasting

# It flips for ever by turns: each gate is moved by others.
RESTLESS = make_circuit("a", p=("nand", "a", "s"), q=("not", "p"), r=("xor", "q", "p"), s=("nand", "r", "q"))


def ring_of_nots(many):
    """Return a ring of gates `not`, each of which reads the one before it."""
    return circuit_from((), {word_like(k): ("not", word_like((k - 1) % many)) for k in range(many)})


class LongPlay:
    """A play by the words of 5.1, in which each moment is noted as a whole."""

    def __init__(self, circuit, setting, bits):
        self.circuit = circuit
        self.setting = dict(setting)
        self.bits = dict(bits)
        self.steps = []
        self.rounds = 0
        self.at = 0
        self.served = {}
        self.excited = uneasy(circuit, self.setting, self.bits)
        for node in nodes_of(circuit):
            self.served[node] = -1 if node in self.excited else 0
        self.missing = set(self.excited)
        self.moments = []

    def note(self):
        """Keep all that there is, to come back to it."""
        self.moments.append((
            self.setting, self.bits, len(self.steps), self.rounds, self.at, dict(self.served), list(self.excited), set(self.missing)))

    def undo(self, many):
        """Take back the last steps and changes, and return how many are left."""
        for _ in range(many):
            self.setting, self.bits, length, self.rounds, self.at, self.served, self.excited, self.missing = self.moments.pop()
            del self.steps[length:]
        return len(self.moments)

    def serve(self, movers):
        """Note who is served behind a step or a change: the movers, and who is not excited."""
        self.at += 1
        self.excited = uneasy(self.circuit, self.setting, self.bits)
        for node in self.served:
            if node in movers or node not in self.excited:
                self.served[node] = self.at

    def step(self, movers):
        self.note()
        wishes = wishes_of(self.circuit, self.setting, self.bits)
        self.bits = {**self.bits, **{node: wishes[node] for node in movers}}
        self.steps.append(tuple(sorted(movers)))
        self.serve(movers)
        # A round ends when each node was not excited in one of its states, or has moved in it.
        self.missing -= set(movers)
        self.missing &= set(self.excited)
        if not self.missing:
            self.rounds += 1
            self.missing = set(self.excited)

    def change(self, setting):
        if setting != self.setting:
            self.note()
            self.setting = dict(setting)
            self.serve(())
            self.rounds = 0
            self.missing = set(self.excited)

    def go(self, kind, many):
        """Do turns or rushes, and return how many."""
        for done in range(many):
            if not self.excited:
                return done
            first = min(self.excited, key=lambda node: (self.served[node], node))
            self.step(tuple(self.excited) if kind == "rush" else (first,))
        return many


class Long(Case):
    def alike(self, play, slow):
        """Check that a play answers as the slow one does."""
        self.same([play.state, play.rounds, play.excited], [as_state(slow.circuit, slow.bits), slow.rounds, tuple(slow.excited)])
        self.same([len(play), play.setting, bool(play)], [len(slow.steps), slow.setting, bool(slow.excited)])
        self.same(play.steps, tuple(slow.steps))
        self.same(str(play), f"play after {len(slow.steps)} steps, {len(slow.excited)} excited")
        self.same(play.undo(many=0), len(slow.moments))

    def both(self, circuit, setting, bits):
        """Return a play and a slow one with the same beginning."""
        return Play(circuit, setting, state=state_from(circuit, bits)), LongPlay(circuit, setting, bits)

    def go(self, play, slow, kind, many):
        self.same((play.turn if kind == "turn" else play.rush)(many=many), slow.go(kind, many))
        self.alike(play, slow)

    def test_all_numbers_at_all_settings(self):
        circuits = small_circuits(26, 2, 4) + [RESTLESS, ring_of_nots(3), ring_of_nots(4)]
        for number, circuit in enumerate(circuits):
            dice = random.Random(number)
            every = settings_of(circuit, (0, 1))
            for setting in every:
                bits = {node: dice.randint(0, 1) for node in nodes_of(circuit)}
                play, slow = self.both(circuit, setting, bits)
                for many in (0, 1, 2, 3, 200):
                    for kind in ("turn", "rush"):
                        self.go(play, slow, kind, many)
                other = dice.choice(every)
                play.change(other)
                slow.change(other)
                self.go(play, slow, "turn", 150)
                back = dice.randint(0, min(170, len(slow.moments)))
                self.same(play.undo(many=back), slow.undo(back))
                self.alike(play, slow)
                self.go(play, slow, "turn", 100)
                self.go(play, slow, "rush", 100)

    def test_a_thousand_and_ten_thousand(self):
        for circuit, setting in (
                (OSC, {"a": 1}), (LUCKY, {}), (RESTLESS, {"a": 1}), (ring_of_nots(3), {}), (random_circuit(5, 1, 4), {"z": 1}), (MIXED, {"a": 1, "b": 1})):
            for kind, other in (("turn", "rush"), ("rush", "turn")):
                play, slow = self.both(circuit, setting, {node: 0 for node in nodes_of(circuit)})
                self.go(play, slow, kind, 1000)
                self.go(play, slow, other, 3)
                self.go(play, slow, kind, 1000)
                for back in (1, 999, 2):
                    if back <= len(slow.moments):
                        self.same(play.undo(many=back), slow.undo(back))
                        self.alike(play, slow)
                        self.go(play, slow, kind, 1000)
                for name in setting:
                    changed = {**slow.setting, name: 1 - slow.setting[name]}
                    play.setting = changed
                    slow.change(changed)
                    self.go(play, slow, other, 1000)
        for circuit, setting in ((OSC, {"a": 1}), (RESTLESS, {"a": 1}), (ring_of_nots(3), {})):
            play, slow = self.both(circuit, setting, {node: 0 for node in nodes_of(circuit)})
            self.go(play, slow, "turn", 10000)
            self.go(play, slow, "rush", 10000)
            self.same([play.undo(many=15000), slow.undo(15000)], [5000, 5000])
            self.alike(play, slow)
            self.same([play.undo(many=5000), slow.undo(5000)], [0, 0])
            self.alike(play, slow)

    def test_any_deeds(self):
        for seed in range(40):
            dice = random.Random(seed)
            circuit = random_circuit(seed, seed % 3, 1 + seed % 4, 3)
            every = settings_of(circuit, (0, 1))
            play, slow = self.both(circuit, dice.choice(every), {node: dice.randint(0, 1) for node in nodes_of(circuit)})
            for _ in range(30):
                kind = dice.choice(("turn", "turn", "rush", "step", "change", "undo", "twin"))
                if kind in ("turn", "rush"):
                    self.go(play, slow, kind, dice.choice((1, 2, 7, 60)))
                elif kind == "step" and slow.excited:
                    movers = dice.sample(slow.excited, dice.randint(1, len(slow.excited)))
                    slow.step(movers)
                    self.same(play.step(*movers), as_state(circuit, slow.bits))
                elif kind == "change":
                    setting = dice.choice(every)
                    play.change(setting)
                    slow.change(setting)
                elif kind == "undo":
                    many = dice.randint(0, min(80, len(slow.moments)))
                    self.same(play.undo(many=many), slow.undo(many))
                elif kind == "twin":
                    twin = play.twin()
                    twin.turn(many=40)
                    twin.rush(many=5)
                    twin.undo(many=min(20, twin.undo(many=0)))
                self.alike(play, slow)

    def test_questions_behind_each_step(self):
        for circuit, setting in ((RESTLESS, {"a": 1}), (ring_of_nots(4), {}), (OSC, {"a": 1})):
            for kind in ("turn", "rush"):
                play, slow = self.both(circuit, setting, {node: 1 for node in nodes_of(circuit)})
                for k in range(400):
                    self.same((play.turn if kind == "turn" else play.rush)(), slow.go(kind, 1))
                    self.same([play.steps[-1:], play.rounds, play.state], [tuple(slow.steps[-1:]), slow.rounds, as_state(circuit, slow.bits)])
                self.alike(play, slow)

    def test_twins_of_long_plays(self):
        play = Play(ring_of_nots(5), {})
        play.turn(many=3000)
        twin = play.twin()
        self.same([twin.turn(many=500), twin.rush(many=500), len(play), len(twin)], [500, 500, 3000, 4000])
        other = Play(ring_of_nots(5), {})
        for _ in range(3500):
            other.turn()
        self.same([play.turn(many=500), play.steps == other.steps, play.rounds, play.state], [500, True, other.rounds, other.state])
        self.same([twin.undo(many=500), twin.steps == other.steps, twin.rounds, twin == play], [3500, True, other.rounds, True])
        self.same([play.undo(many=3500), play.state, twin.undo(many=3500), twin.state], [0, plain_state(play.circuit), 0, plain_state(play.circuit)])

    def test_great_circuits(self):
        circuit = random_circuit(3, 2, 40, 3)
        self.assertTrue(len(nodes(circuit)) > 64)
        for kind in ("turn", "rush"):
            setting = {"y": 1, "z": 0}
            play, slow = self.both(circuit, setting, {node: k % 2 for k, node in enumerate(nodes_of(circuit))})
            for many in (1, 2, 60):
                self.go(play, slow, kind, many)
            for _ in range(5):
                if slow.excited:
                    slow.step(slow.excited[:2])
                    self.same(play.step(*play.excited[:2]), as_state(circuit, slow.bits))
            twin = play.twin()
            twin.turn(many=30)
            play.change({"y": 0, "z": 1})
            slow.change({"y": 0, "z": 1})
            self.go(play, slow, "turn", 50)
            self.same(play.undo(many=30), slow.undo(30))
            self.alike(play, slow)

    def test_few_spots_are_noted(self):
        for most in (1, 2, 3, 7):
            with unittest.mock.patch("loopgates.runs.spots.MOST_SPOTS", most):
                for circuit, setting in ((RESTLESS, {"a": 1}), (ring_of_nots(3), {})):
                    play, slow = self.both(circuit, setting, {node: 0 for node in nodes_of(circuit)})
                    for kind, many in (("turn", 120), ("rush", 50), ("turn", 300)):
                        self.go(play, slow, kind, many)

    def test_gates_of_four_wires(self):
        for size in (1, 2, 4, 8, 16):
            wires = size.bit_length() - 1
            turned = by_digits(tuple(range(size)))
            for bits in all_rows((0, 1), wires):
                self.same(turned[sum(bit << k for k, bit in enumerate(bits))], int("".join(map(str, bits)) or "0", 2))
                self.same(WIRE_BITS[2 * size - 1][sum(bit << k for k, bit in enumerate(bits))], bits)
        for seed in range(6):
            dice = random.Random(seed)
            circuit = make_circuit("a", **{name: (tuple(dice.randint(0, 1) for _ in range(16)), *dice.choices("apqr", k=4)) for name in "pqr"})
            play, slow = self.both(circuit, {"a": seed % 2}, {node: dice.randint(0, 1) for node in nodes_of(circuit)})
            for kind, many in (("turn", 40), ("rush", 40), ("turn", 40)):
                self.go(play, slow, kind, many)

    def test_wrong_values(self):
        play = Play(RESTLESS, {"a": 1})
        play.turn(many=1000)
        before = (play.steps, play.state, play.rounds, play.excited, play.setting)
        for value in odd_values() + [10001, -1, 10 ** 39, True]:
            if not (type(value) is int and 0 <= value <= 10000):
                for call in (play.turn, play.rush):
                    self.same(self.refuses(InvalidNumber, call, many=value).value, value)
            if not (type(value) is int and value >= 0):
                self.same(self.refuses(InvalidNumber, play.undo, many=value).value, value)
            self.refuses(InvalidStep, play.step_by, value)
            if repr(value) not in ("{'a': 0}", "{'a': 1}"):
                self.refuses(InvalidSetting, play.change, value)
            self.same(value in play, False)
        self.same(self.refuses(NothingToUndo, play.undo, many=1001).many, 1001)
        self.same((play.steps, play.state, play.rounds, play.excited, play.setting), before)


class Loops(LoopCase):
    def test_loops_of_plays(self):
        found = [0, 0]
        for number, circuit in enumerate(small_circuits(40, 2, 4) + [RESTLESS, ring_of_nots(3), ring_of_nots(4)]):
            dice = random.Random(number)
            for setting in settings_of(circuit, (0, 1)):
                play = Play(circuit, setting)
                play.turn(many=50)
                begun, first = play.state, len(play)
                while len(play) < first + 120 and play.turn() and play.state != begun:
                    pass
                steps = play.steps[first:]
                if not steps or play.state != begun:
                    continue
                for times in (1, 2, 3, 4, 6, 11, 30):
                    wanted = self.judge(circuit, setting, begun, steps * times)
                    found[wanted[0]] += 1
                at = dice.randrange(len(steps))
                for bent in (steps[:at] + steps[at + 1:], steps + steps[:at], steps * 2 + steps[:1], steps[:at] + steps[at:at + 1] * 2 + steps[at + 1:], steps[::-1],
                             steps[1:] + steps[:1], steps * 3 + steps[at:]):
                    self.judge(circuit, setting, begun, bent)
        self.assertTrue(found[1] > 20, found)

    def test_flipping_loops_again_and_again(self):
        for circuit in (OSC, LUCKY, CROSS, RESTLESS, MIXED, ring_of_nots(4)):
            for setting in settings_of(circuit, (0, 1)):
                loop = flipping_loop(circuit, setting)
                if loop is None:
                    continue
                state, steps = loop
                for times in (2, 3, 5, 7, 14):
                    self.judge(circuit, setting, state, steps * times)
                    self.judge(circuit, setting, state, steps * times + steps[:1])
                long = (state, steps * 2500)
                self.same([is_step_loop(circuit, setting, long), flipping_gates(circuit, setting, long)], [True, flipping_gates(circuit, setting, loop)])
                self.same(is_fair_loop(circuit, setting, long), True)
                self.same(is_step_loop(circuit, setting, (state, long[1][:-1])), False)
                for place in (0, 1, len(steps), len(long[1]) // 2, len(long[1]) - 1):
                    for other in self.bent_steps(long[1][place]):
                        value = (state, long[1][:place] + (other,) + long[1][place + 1:])
                        self.same(is_step_loop(circuit, setting, value), False, other)
                        self.same(is_fair_loop(circuit, setting, value), False, other)
                        self.refuses(InvalidStep, flipping_gates, circuit, setting, value)

    def bent_steps(self, step):
        """Return values that are no step, some of which are equal to the step in Python."""
        twins = [tuple((name, {0: False, 1: True}.get(wire, wire)) for name, wire in step)]
        others = [list(step), step + step[-1:], step[:-1] if len(step) > 1 else (), tuple(list(node) for node in step), None, 0, "", {}, (None,) + step[1:], ((),)]
        return [twin for twin in twins if repr(twin) != repr(step)] + others

    def test_wrong_values_in_great_circuits(self):
        circuit = ring(60)
        state = plain_state(circuit, bit=0)
        around = tuple(((word_like(k % 60), where),) for k in range(60) for where in (0, -1))
        one = state_from(circuit, {(word_like(59), -1): 1})
        lap = tuple(step for k in range(60) for step in (((word_like(k), 0),), ((word_like(k), -1),), (
            (word_like((k - 1) % 60), 0),), ((word_like((k - 1) % 60), -1),)))
        self.same([is_step_loop(circuit, {}, (state, around)), is_step_loop(circuit, {}, (one, around))], [False, False])
        first = lap[:2]
        self.same(is_step_loop(circuit, {}, (one, first)), False)
        pair = ((("aaa", -1), ("aab", -1)), (("aaa", 0), ("aab", 0)))
        other = circuit_from((), {word_like(k): ("not", word_like(k)) for k in range(60)})
        begun = plain_state(other)
        self.judge(other, {}, begun, pair * 2)
        for step in ((("aab", -1), ("aaa", -1)), (("aaa", -1), ("aaa", -1)), (("aaa", -1), ("aab", True)), (("aaa", -1), ("zz", -1)), (("aaa", -1), ["aab", -1]), (("aaa", -1), None)):
            self.same(is_step_loop(other, {}, (begun, (step,) + pair[1:] + pair)), False)
        for double in ((("aaa", -1), ("aab", -1), ("aab", -1)), (("aaa", -1), ("aaa", -1), ("aab", -1)), (("aaa", -1), ("aaa", -1))):
            for rest in (pair[1:] + pair, pair[1:], pair, ((("aaa", -1),), (("aaa", 0),)), ((("aaa", 0),), (("aaa", 0),)), ((("aaa", 0), ("aaa", 0)),)):
                self.same(is_step_loop(other, {}, (begun, (double,) + rest)), False)
        for value in odd_values():
            self.same(is_step_loop(other, {}, (begun, value)), False)
            self.same(is_step_loop(other, {}, (begun, (value,) * 4)), False)
            self.same(is_step_loop(other, {}, (begun, (pair[0], (("aaa", 0), value)) * 2)), False)


class States(Case):
    def test_states_of_rest_of_up_to_six_gates(self):
        for seed in range(120):
            circuit = random_circuit(seed, seed % 3, 1 + seed % 6, 4)
            for setting in settings_of(circuit, (0, 1)):
                wanted = []
                for own in all_rows((0, 1), len(circuit[1])):
                    given = {**setting, **{gate[0]: bit for gate, bit in zip(circuit[1], own)}}
                    # Where a wire has not the bit of its source, it is excited.
                    state = (own, tuple(tuple(given[source] for source in sources) for _, sources, _ in circuit[1]))
                    if not excited(circuit, setting, state):
                        wanted.append(state)
                self.same(list(rest_states(circuit, setting)), wanted, (circuit, setting))

    def test_many_states_of_rest(self):
        for many in range(1, 10):
            names = "abcdefghi"[:many]
            circuit = circuit_from(("x", "y"), {name: ("buffer", name) for name in names} | {"z": ("and", "x", "a", "y")})
            found = list(rest_states(circuit, {"x": 1, "y": 1}))
            self.same([own for own, _ in found], [row + (row[0],) for row in all_rows((0, 1), many)])
            self.same([taken[-1] for _, taken in found], [(1, own[0], 1) for own, _ in found])
            self.same(all(excited(circuit, {"x": 1, "y": 1}, state) == () for state in found), True)

    def test_lasting_states_of_seven_and_eight_nodes(self):
        done = 0
        for seed in itertools.count():
            circuit = random_circuit(seed, 1, 1 + seed % 4, 4)
            if len(nodes(circuit)) not in (7, 8) or all(known_values(circuit, {"z": a})[g[0]] != 2 for a in (0, 1) for g in circuit[1]):
                continue
            for setting in settings_of(circuit, (0, 1)):
                wanted = lasting(circuit, setting)
                self.same(lasting_states(circuit, setting), tuple(wanted), (circuit, setting))
                self.same(lasting_bits(circuit, setting), {
                    gate[0]: tuple(sorted({own[at] for own, _ in wanted})) for at, gate in enumerate(circuit[1])})
            done += 1
            if done == 8:
                break

    def test_few_and_many_free_nodes(self):
        for circuit, count in ((EMPTY, 1), (make_circuit(x=("one",)), 1), (make_circuit(x=("buffer", "x")), 4), (ring_of_nots(4), 256), (LUCKY, 25)):
            self.same(len(lasting_states(circuit, {})), count)
        self.same(lasting_states(TIE, {"a": 1}), (((1,), ((1, 1),)),))
        behind = make_circuit("a", x=("not", "x"), y=("or", "a", "x"))
        self.same(lasting_states(behind, {"a": 1}), tuple(
            ((own, 1), ((wire,), (1, read))) for own in (0, 1) for wire in (0, 1) for read in (0, 1)))
        self.same(lasting_bits(behind, {"a": 1}), {"x": (0, 1), "y": (1,)})
        for call in (lasting_states, lasting_bits):
            self.same(self.refuses(TooMany, call, ring_of_nots(5), {}).limit, 8)
            self.refuses(InvalidSetting, call, ring_of_nots(5), {"a": 0})
            self.refuses(InvalidSetting, call, OSC, {"a": 2})


if __name__ == "__main__":
    unittest.main()
