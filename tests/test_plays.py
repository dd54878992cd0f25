"""Points 5.1 and 5.2: plays, step by step, with their rounds and turns, and back."""

import random
import unittest

from loopgates.circuits.circuits import circuit_from, make_circuit
from loopgates.errors import (
    InvalidCircuit, InvalidNumber, InvalidSetting, InvalidState, InvalidStep, NothingToUndo)
from loopgates.runs.plays import Play
from loopgates.runs.states import excited, nodes, plain_state, state_from, stepped_by
from loopgates.settling.known import known_values, ranks
from tests.samples import (
    CROSS, Case, EMPTY, LUCKY, MIXED, OSC, TIE, chain, greatest, odd_values, random_circuit, settings_of, small_circuits, word_like)
from tests.slow_play import SlowPlay, nodes_of


def shown(play):
    """Return all that can be asked of a play."""
    return (
        play.circuit, play.setting, play.state, play.steps, play.rounds, play.excited, len(play), bool(play), str(play),
        [node in play for node in nodes_of(play.circuit)])


class Plays(Case):
    def alike(self, play, slow):
        """Check that a play answers as the slow one does."""
        self.same(play.circuit, slow.circuit)
        self.same(play.setting, {name: slow.setting[name] for name in sorted(slow.setting)})
        self.same(play.state, slow.state)
        self.same(play.steps, slow.steps)
        self.same(play.rounds, slow.rounds)
        self.same(play.excited, slow.excited)
        self.same([len(play), bool(play)], [len(slow.steps), bool(slow.excited)])
        self.same(str(play), f"play after {len(slow.steps)} steps, {len(slow.excited)} excited")
        for node in nodes_of(slow.circuit):
            self.same(node in play, node in slow.excited)

    def test_example(self):
        play = Play(OSC, {"a": 0})
        self.same(
            [play.rush(many=9), play.state, play.rounds, str(play)],
            [2, ((1,), ((0, 1),)), 2, "play after 2 steps, 0 excited"])

    def test_new_plays(self):
        play = Play(OSC, {"a": 1})
        self.same(shown(play), (
            OSC, {"a": 1}, ((0,), ((0, 0),)), (), 0, (("x", -1), ("x", 0)), 0, True, "play after 0 steps, 2 excited",
            [True, True, False]))
        self.same(shown(Play(EMPTY, {})), (EMPTY, {}, ((), ()), (), 0, (), 0, False, "play after 0 steps, 0 excited", []))
        play = Play(TIE, {"a": 1}, state=((1,), ((1, 0),)))
        self.same([play.state, play.excited, len(play)], [((1,), ((1, 0),)), (("x", 1),), 0])
        self.same(Play(CROSS, {"c": 1, "a": 0}).setting, {"a": 0, "c": 1})
        self.same(list(Play(CROSS, {"c": 1, "a": 0}).setting), ["a", "c"])
        self.same(Play(OSC, {"a": 1}, state=None).state, plain_state(OSC))

    def test_any_deeds_against_the_definition(self):
        circuits = small_circuits(24, 2, 4) + [MIXED, make_circuit("a", "b", x=("and", "a", "x", "b"), y=("xor", "x", "y"))]
        for number, circuit in enumerate(circuits):
            dice = random.Random(number)
            setting = {name: dice.randint(0, 1) for name in circuit[0]}
            bits = {node: dice.randint(0, 1) for node in nodes_of(circuit)}
            play, slow = Play(circuit, setting, state=state_from(circuit, bits)), SlowPlay(circuit, setting, bits)
            self.alike(play, slow)
            for _ in range(45):
                self.deed(dice, play, slow)
                self.alike(play, slow)

    def deed(self, dice, play, slow):
        """Do the same deed, found by chance, with both."""
        kind = dice.choice(("step", "step", "rush", "turn", "turn", "turn", "change", "undo"))
        if kind == "change":
            setting = {name: dice.randint(0, 1) for name in play.circuit[0]}
            self.same(play.change(setting), None)
            slow.change(setting)
        elif kind == "undo":
            many = dice.randint(0, min(3, len(slow.moments) - 1))
            self.same(play.undo(many=many), slow.undo(many))
        elif slow.excited:
            if kind == "turn":
                movers = (slow.next_turn(),)
                self.same(play.turn(), 1)
            elif kind == "rush":
                movers = slow.excited
                self.same(play.rush(), 1)
            else:
                movers = tuple(dice.sample(slow.excited, dice.randint(1, len(slow.excited))))
                self.same(play.step_by(movers) if dice.randint(0, 1) else play.step(*movers), stepped_by(
                    slow.circuit, slow.setting, slow.state, movers))
            slow.step(movers)
            self.same(play.state, slow.state)

    def test_many_turns_and_rushes_at_once(self):
        for seed in range(30):
            circuit = random_circuit(seed, 1, 3, 2)
            setting = {name: 1 for name in circuit[0]}
            bits = {node: (seed >> k) & 1 for k, node in enumerate(nodes_of(circuit))}
            play, slow = Play(circuit, setting, state=state_from(circuit, bits)), SlowPlay(circuit, setting, bits)
            for many in (0, 1, 5, 2):
                done = 0
                while done < many and slow.excited:
                    slow.step((slow.next_turn(),))
                    done += 1
                self.same(play.turn(many=many), done)
                self.alike(play, slow)
                done = 0
                while done < many // 2 and slow.excited:
                    slow.step(slow.excited)
                    done += 1
                self.same(play.rush(many=many // 2), done)
                self.alike(play, slow)

    def test_steps(self):
        play = Play(OSC, {"a": 1})
        self.same(play.step(("x", 0), ("x", -1)), ((1,), ((1, 0),)))
        self.same([play.steps, play.excited, len(play)], [((("x", -1), ("x", 0)),), (("x", 1),), 1])
        self.same(play.step_by((("x", 1),)), ((1,), ((1, 1),)))
        self.same(play.steps, ((("x", -1), ("x", 0)), (("x", 1),)))
        self.same(play.rush(many=3), 3)
        self.same(len(play.steps), 5)

    def test_wrong_movers_change_nothing(self):
        play = Play(OSC, {"a": 1})
        play.step(("x", 0))
        before = shown(play)
        for value in odd_values() + [
                (("x", 1),), (("x", -1), ("x", -1)), (("x", -1), ("x", 1)), (("x", 0),), (("y", -1),), (("a", -1),), [("x", -1)],
                ("x", -1), (("x", -1), None), (["x", -1],), (("x", -1, 0),), (("x", -2),), (("x", 2),)]:
            self.refuses(InvalidStep, play.step_by, value)
            if repr(value) != "('x', -1)":
                self.refuses(InvalidStep, play.step, value)
                self.refuses(InvalidStep, play.step, ("x", -1), value)
            self.refuses(InvalidStep, play.step, ("x", -1), ("x", -1))
            self.same(shown(play), before)
        self.refuses(InvalidStep, play.step)
        self.refuses(InvalidStep, play.step_by, ())
        self.same([play.undo(), play.step(("x", 0))], [0, ((0,), ((1, 0),))])

    def test_rest(self):
        play = Play(OSC, {"a": 0}, state=((1,), ((0, 1),)))
        self.same([play.rush(many=10000), play.turn(many=10000), play.rush(many=0), play.turn(), play.rounds], [0] * 5)
        self.same([bool(play), play.excited, play.steps], [False, (), ()])
        for node in nodes(OSC):
            self.refuses(InvalidStep, play.step, node)
        self.refuses(NothingToUndo, play.undo)

    def test_how_many(self):
        play = Play(OSC, {"a": 1})
        for call in (play.rush, play.turn):
            for value in odd_values() + [-1, 10001, 10 ** 39, True, "1", (1,), 10 ** 4 + 1]:
                if not (type(value) is int and 0 <= value <= 10000):
                    self.same(self.refuses(InvalidNumber, call, many=value).value, value)
        self.same([play.steps, play.undo(many=0)], [(), 0])
        self.same([play.rush(many=10000), play.undo(many=10000), play.turn(many=10000), len(play), play.undo(many=10000)],
                  [10000, 0, 10000, 10000, 0])
        self.same(play.state, plain_state(OSC))

    def test_turns_take_who_waits_longest(self):
        circuit = make_circuit("a", x=("not", "x"), y=("not", "a"), z=("not", "a"))
        play = Play(circuit, {"a": 0})
        self.same(play.excited, (("x", -1), ("y", -1), ("z", -1)))
        self.same(play.turn(many=3), 3)
        self.same(play.steps, ((("x", -1),), (("y", -1),), (("z", -1),)))
        self.same(play.turn(), 1)
        self.same(play.steps[3], (("x", 0),))
        play = Play(circuit, {"a": 0})
        play.step(("x", -1))
        play.step(("x", 0))
        self.same(play.excited, (("x", -1), ("y", -1), ("z", -1)))
        self.same([play.turn(), play.steps[2]], [1, (("y", -1),)])
        self.same([play.undo(), play.undo(), play.turn(), play.steps[1]], [2, 1, 1, (("y", -1),)])
        play.change({"a": 1})
        self.same(play.excited, (("x", 0), ("y", 0), ("z", -1), ("z", 0)))
        self.same([play.turn(many=2), play.steps[2:]], [2, ((("z", -1),), (("x", 0),))])


class Settings(Case):
    def test_changes(self):
        play = Play(OSC, {"a": 0})
        play.rush(many=2)
        self.same([play.rounds, play.excited], [2, ()])
        play.setting = {"a": 1}
        self.same([play.setting, play.rounds, play.excited, play.state, len(play)], [
            {"a": 1}, 0, (("x", 0),), ((1,), ((0, 1),)), 2])
        self.same([play.rush(), play.rounds, play.change({"a": 0}), play.rounds, play.excited], [
            1, 1, None, 0, (("x", -1), ("x", 0))])
        self.same([play.undo(), play.setting, play.rounds], [4, {"a": 1}, 1])
        self.same([play.undo(), play.rounds, play.undo(), play.setting, play.rounds], [3, 0, 2, {"a": 0}, 2])
        self.same([play.undo(many=2), play.rounds, play.state], [0, 0, plain_state(OSC)])

    def test_an_equal_setting_changes_nothing(self):
        play = Play(CROSS, {"a": 0, "c": 1})
        play.rush(many=2)
        before = shown(play)
        play.setting = {"c": 1, "a": 0}
        self.same(play.change({"a": 0, "c": 1}), None)
        self.same([shown(play), play.undo(many=0)], [before, 2])
        self.same(Play(EMPTY, {}).change({}), None)

    def test_invalid_settings(self):
        play = Play(CROSS, {"a": 0, "c": 1})
        play.rush()
        before = shown(play)
        for value in odd_values() + [{"a": 0}, {"a": 0, "c": 2}, {"a": 0, "c": True}, {"a": 0, "c": 1, "d": 0}, {"a": 0, "b": 1}]:
            self.refuses(InvalidSetting, play.change, value)
            with self.assertRaises(InvalidSetting):
                play.setting = value
        self.same([shown(play), play.undo(many=0)], [before, 1])

    def test_derived_gates_rest_after_twice_their_ranks(self):
        for circuit in small_circuits(40) + [MIXED]:
            for setting in settings_of(circuit, (0, 1)):
                order = ranks(circuit, setting)
                known = known_values(circuit, setting)
                for bit in (0, 1):
                    play = Play(circuit, setting, state=plain_state(circuit, bit=bit))
                    for _ in range(150):
                        for at, gate in enumerate(circuit[1]):
                            if gate[0] in order and play.rounds >= 2 * order[gate[0]]:
                                self.same(play.state[0][at], known[gate[0]])
                        if not play.turn():
                            break


class Undo(Case):
    def test_too_many(self):
        play = Play(OSC, {"a": 1})
        play.rush(many=3)
        play.change({"a": 0})
        before = shown(play)
        for many in (5, 6, 10000, 10 ** 39):
            self.same(self.refuses(NothingToUndo, play.undo, many=many).many, many)
            self.same(shown(play), before)
        for value in odd_values() + [-1, True, False, None, "1"]:
            if not (type(value) is int and value >= 0):
                self.same(self.refuses(InvalidNumber, play.undo, many=value).value, value)
        self.same([shown(play), play.undo(many=0)], [before, 4])
        self.same([play.undo(many=4), play.undo(many=0), shown(play)], [0, 0, shown(Play(OSC, {"a": 1}))])

    def test_after_undo_the_same_goes_on(self):
        for circuit in (CROSS, LUCKY, MIXED, OSC):
            setting = {name: 1 for name in circuit[0]}
            play = Play(circuit, setting)
            seen = [shown(play)]
            while len(play) < 12 and play.turn():
                seen.append(shown(play))
            for many in (1, 3, len(play)):
                play.undo(many=many)
                self.same(shown(play), seen[len(seen) - 1 - many])
                play.turn(many=many)
                self.same(shown(play), seen[-1])


class Twins(Case):
    def test_twins_go_their_own_way(self):
        play = Play(OSC, {"a": 1})
        play.turn(many=3)
        play.change({"a": 0})
        play.change({"a": 1})
        twin = play.twin()
        self.assertTrue(play == twin and twin == play)
        self.same(shown(twin), shown(play))
        before = shown(play)
        twin.turn(many=5)
        twin.change({"a": 0})
        self.same(shown(play), before)
        self.assertFalse(play == twin)
        self.same([twin.undo(many=6), shown(twin)], [5, before])
        self.same([twin.undo(many=5), len(twin), shown(play), play.undo(many=0)], [0, 0, before, 5])
        later = play.twin()
        play.undo(many=5)
        self.same([shown(later), shown(play), shown(twin)], [before, shown(Play(OSC, {"a": 1})), shown(Play(OSC, {"a": 1}))])
        self.same([later.turn(many=2), play.turn(many=2), len(later), len(play)], [2, 2, 5, 2])

    def test_twins_serve_the_same_nodes(self):
        for seed in range(20):
            circuit = random_circuit(seed, 1, 4, 3)
            play = Play(circuit, {name: 0 for name in circuit[0]})
            play.turn(many=5)
            twin = play.twin()
            self.same([twin.turn(many=9), twin.steps], [play.turn(many=9), play.steps])
            self.same(shown(twin), shown(play))

    def test_equality(self):
        play = Play(OSC, {"a": 1})
        self.assertTrue(play == Play(OSC, {"a": 1}))
        self.assertFalse(play == Play(OSC, {"a": 0}))
        self.assertFalse(play == Play(TIE, {"a": 1}))
        self.assertFalse(play == Play(OSC, {"a": 1}, state=((1,), ((0, 0),))))
        self.assertFalse(play == Play(OSC, {"a": 1}, state=((0,), ((1, 0),))))
        self.assertTrue(play != Play(OSC, {"a": 0}))
        other = Play(OSC, {"a": 1})
        other.rush()
        other.undo()
        self.assertTrue(play == other)
        play.rush(many=4)
        self.assertTrue(play == Play(OSC, {"a": 1}, state=play.state))
        for value in odd_values() + [play.state, OSC, str(play)]:
            self.same([play == value, value == play, play != value], [False, False, True])

    def test_no_iteration(self):
        play = Play(OSC, {"a": 1})
        for call in (iter, list, tuple, sorted, enumerate):
            self.refuses(TypeError, call, play)
        with self.assertRaises(TypeError):
            [*play]


class Values(Case):
    def test_which_values_are_in_a_play(self):
        play = Play(OSC, {"a": 1})
        for value in odd_values() + [play, [("x", -1)], ("x", -2), ("y", 0), (("x", -1),), {"x": -1}]:
            self.same(value in play, repr(value) in ("('x', -1)", "('x', 0)"), value)
        self.same([("x", False) in play, ("x", True) in play, ["x", 0] in play], [False, False, False])

    def test_no_access_to_the_state(self):
        setting = {"a": 1}
        play = Play(OSC, setting)
        before = shown(play)
        setting["a"] = 0
        self.same(shown(play), before)
        got = play.setting
        got["a"] = 0
        got["b"] = 5
        self.same(shown(play), before)
        fresh = {"a": 0}
        play.change(fresh)
        fresh["a"] = 7
        self.same([play.setting, play.undo(), shown(play)], [{"a": 0}, 0, before])
        for name in ("circuit", "state", "steps", "rounds", "excited"):
            with self.assertRaises(AttributeError):
                setattr(play, name, None)

    def test_errors_in_their_order(self):
        for value in odd_values():
            if value != (("a",), ()):
                self.refuses(InvalidCircuit, Play, value, None, state=5)
            if repr(value) not in ("{'a': 0}", "{'a': 1}"):
                self.refuses(InvalidSetting, Play, OSC, value, state=5)
            if value is not None and repr(value) != "((0,), ((0, 0),))":
                self.refuses(InvalidState, Play, OSC, {"a": 0}, state=value)
        self.refuses(InvalidSetting, Play, OSC, {"a": 2})
        self.refuses(InvalidState, Play, OSC, {"a": 1}, state=plain_state(CROSS))

    def test_arguments_stay(self):
        setting, state = {"c": 1, "a": 0}, plain_state(CROSS, bit=1)
        Play(CROSS, setting, state=state).rush(many=5)
        self.same([setting, state], [{"c": 1, "a": 0}, plain_state(CROSS, bit=1)])


class Great(Case):
    def test_long_plays(self):
        circuit = greatest()
        setting = {name: k % 2 for k, name in enumerate(circuit[0])}
        play = Play(circuit, setting)
        self.same([play.state, play.excited], [plain_state(circuit), excited(circuit, setting, plain_state(circuit))])
        play.turn(many=10000)
        self.same(play.excited, excited(circuit, setting, play.state))
        self.same(play.undo(many=0), len(play))
        twin = play.twin()
        twin.undo(many=len(twin))
        self.same([twin.state, twin.rounds], [plain_state(circuit), 0])
        play.rush(many=300)
        self.same(play.excited, excited(circuit, setting, play.state))

    def test_thousands_of_questions(self):
        circuit = circuit_from((), {word_like(k): ("not", word_like(k - 1) if k else word_like(198)) for k in range(199)})
        play = Play(circuit, {})
        for _ in range(3000):
            play.turn()
            self.assertEqual(len(play.excited), len([node for node in play.excited if node in play]))
            self.assertEqual([len(play) > 0, play.rounds >= 0, bool(play)], [True, True, True])
        self.same(play.excited, excited(circuit, {}, play.state))
        small = Play(OSC, {"a": 1})
        for k in range(5000):
            small.step(*small.excited)
            small.change({"a": k % 2})
            self.assertEqual(len(small), k + 1)
        self.same(small.undo(many=2500), 7500)

    def test_rounds_of_a_chain(self):
        play = Play(chain(100), {"a": 1})
        self.same(play.rush(many=10000), len(play))
        self.same(play.state[0], (0, 1) * 50)
        circuit = circuit_from(("a",), {word_like(k): ("buffer", word_like(k - 1) if k else "a") for k in range(50)})
        play = Play(circuit, {"a": 1})
        self.same([play.turn(many=1000), play.rounds, play.excited], [100, 100, ()])


if __name__ == "__main__":
    unittest.main()
