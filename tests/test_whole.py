"""Points 0.14 to 0.16 over the whole program: from circuits to the shell."""

import random
import unittest

from loopgates.bench.bench import Bench
from loopgates.circuits.circuits import gate_names, make_circuit
from loopgates.circuits.loops import loop_gates
from loopgates.errors import TooMany
from loopgates.machines.machines import Runner, machine_from, tick
from loopgates.machines.reach import is_machine_paper, machine_paper
from loopgates.modules.behaviours import behaviour_of, make_module, module_from
from loopgates.modules.nets import Net
from loopgates.modules.realized import realized
from loopgates.modules.surroundings import closed_circuit, result, separating
from loopgates.runs.fair import flipping_gates, is_fair_loop
from loopgates.runs.flips import flipping_loop
from loopgates.runs.force import lasting_bits, rest_states
from loopgates.runs.plays import Play
from loopgates.settling.causes import steady_values
from loopgates.settling.derivations import derivation, derive_all, is_derivation
from loopgates.settling.known import known_values, ranks
from loopgates.text.expressions import compiled_from, equations_of
from loopgates.text.formats import format_circuit, format_lines, format_setting, parse_circuit, parse_lines, parse_setting
from loopgates.text.shell import Shell
from tests import oracle
from tests.samples import CROSS, Case, LUCKY, MIXED, OSC, TIE, all_rows, random_circuit, settings_of, small_circuits

CIRCUITS = small_circuits(40, 2, 5) + [MIXED]


def built(circuit, dice):
    """Return a shell whose circuit was made by edits in any order, some of which were undone, with all inputs at 2."""
    shell = Shell(*circuit[0])
    names = list(gate_names(circuit))
    dice.shuffle(names)
    for name in names:
        shell.run(f"gate {name} {dice.randint(0, 1)}")
    dice.shuffle(names)
    gates = {name: (sources, table) for name, sources, table in circuit[1]}
    for name in names:
        sources, table = gates[name]
        shell.run(f"gate {name} one")
        shell.run(" ".join(["gate", name, "".join(map(str, table)), *sources]))
        if dice.randint(0, 2) == 0:
            shell.run("undo 2")
            shell.run("redo 1")
            shell.run("redo 1")
    return shell


class Guarantee(Case):
    def test_one_of_two_papers(self):
        for circuit in CIRCUITS:
            for setting in settings_of(circuit, (0, 1)):
                bench = Bench.of(circuit, setting)
                known = oracle.known(circuit, setting)
                loop = flipping_loop(circuit, setting)
                self.same(loop is None, 2 not in known.values())
                if loop is not None:
                    self.same([is_fair_loop(circuit, setting, loop), len(loop[1]) in (2, 4)], [True, True])
                    self.same(flipping_gates(circuit, setting, loop), bench.unknown())
                for gate, value in known.items():
                    paper = bench.why(gate)
                    self.same([paper[0], derivation(circuit, setting, gate) is None], ["flips" if value == 2 else "settles", value == 2])

    def test_known_values_by_other_ways(self):
        for number, circuit in enumerate(CIRCUITS):
            dice = random.Random(number)
            shell = built(circuit, dice)
            self.same([shell.bench().circuit, shell.run("circuit")], [circuit, format_circuit(circuit).replace("\n", " / ")])
            again = parse_circuit(format_circuit(circuit))
            equal = compiled_from(equations_of(circuit)) if len(circuit[1]) < 5 else circuit
            names = gate_names(circuit)
            module = module_from(circuit, {"p": names[0], "q": names[-1]}) if names else None
            for setting in settings_of(circuit, (0, 1, 2)):
                known = oracle.known(circuit, setting)
                for name, value in setting.items():
                    shell.run(f"set {name} {'01?'[value]}")
                self.same([shell.run("known"), shell.run("setting")], [format_setting(known), format_setting(setting)])
                self.same(known_values(again, parse_setting(format_setting(setting))), known)
                found = known_values(equal, {name: setting[name] for name in equal[0]})
                self.same({name: found[name] for name in names}, known)
                for gate, value in known.items():
                    answer = shell.run(f"why {gate}")
                    self.same(answer in ("flips", "unknown"), value == 2)
                    if value != 2:
                        self.same(is_derivation(circuit, setting, gate, parse_lines(answer.removeprefix("derived "))), True)
                if module:
                    row = tuple(setting.values())
                    parts = (module, behaviour_of(module), realized(behaviour_of(module)), Net.single(module).flattened())
                    wanted = (known[names[0]], known[names[-1]])
                    self.same([Net.single(part)(row) for part in parts], [wanted] * 4)

    def test_cut_into_modules(self):
        for seed in range(40):
            circuit = random_circuit(seed, 0, 6, 3)
            names = gate_names(circuit)
            dice = random.Random(seed)
            inner = sorted(dice.sample(names, 3))
            gates = {name: (sources, table) for name, sources, table in circuit[1]}
            feeds = sorted({source for name in inner for source in gates[name][0] if source not in inner})
            shown = sorted({source for name in names if name not in inner for source in gates[name][0] if source in inner}) or inner[:1]
            module = module_from((tuple(feeds), tuple((name, *gates[name]) for name in inner)), {name: name for name in shown})
            outer = (tuple(shown), tuple((name, *gates[name]) for name in names if name not in inner))
            for gate in gate_names(outer):
                surrounding = (outer, {name: name for name in feeds}, gate)
                wanted = oracle.known(circuit, {})[gate]
                self.same([result(module, surrounding), result(behaviour_of(module), surrounding)], [wanted, wanted])
                closed, own = closed_circuit(realized(behaviour_of(module)), surrounding)
                self.same(known_values(closed, {})[own[gate]], wanted)

    def test_runs(self):
        for circuit in small_circuits(25, 2, 3):
            for setting in settings_of(circuit, (0, 1)):
                play = Play(circuit, setting)
                order = ranks(circuit, setting)
                play.turn(many=400)
                known = known_values(circuit, setting)
                for at, (gate, _, _) in enumerate(circuit[1]):
                    if gate in order and play.rounds >= 2 * order[gate]:
                        self.same(play.state[0][at], known[gate])

    def test_machines(self):
        found = [0, 0]
        for seed in range(60):
            dice = random.Random(seed)
            circuit = random_circuit(seed, 3, 5, 3)
            names = [*circuit[0], *gate_names(circuit)]
            machine = machine_from(circuit, {name: (dice.choice(names), dice.randint(0, 1)) for name in circuit[0][1:]}, {"p": dice.choice(names)})
            paper = machine_paper(machine)
            self.same(is_machine_paper(machine, paper), True)
            found[paper[0] == "flips"] += 1
            runner = Runner(machine)
            bench = Bench(circuit)
            for row in paper[1][:-1] if paper[0] == "flips" else ((0,), (1,), (1,)):
                bench.setting = {circuit[0][0]: row[0], **dict(zip(circuit[0][1:], runner.state))}
                after = tuple(bench[source] for _, source, _ in machine[1])
                self.same([tick(machine, runner.state, row)[1], runner(row), runner.state], [after, (bench[machine[2][0][1]],), after])
            if paper[0] == "flips":
                self.same(tick(machine, runner.state, paper[1][-1]), None)
        self.assertTrue(min(found) > 5, found)


class NoneOfThese(Case):
    """Point 0.16: each statement has a circuit that shows that it is not true."""

    def test_rest_and_settling(self):
        self.same([list(rest_states(LUCKY, {})), known_values(LUCKY, {})], [[((0, 1), ((1,), (0, 1)))], {"n": 2, "y": 2}])
        self.same(lasting_bits(LUCKY, {}), {"n": (0, 1), "y": (0, 1)})
        play = Play(TIE, {"a": 0})
        self.same([bool(play), known_values(TIE, {"a": 0})], [False, {"x": 2}])

    def test_both_values_of_an_input(self):
        late = make_circuit("a", n=("not", "a"), x=("or", "a", "n"))
        self.same([known_values(late, {"a": value})["x"] for value in (0, 1, 2)], [1, 1, 2])
        double = make_circuit(x=("xor", "y", "y"), y=("not", "y"))
        self.same(known_values(double, {})["x"], 2)
        module, ever = make_module(late, x="x"), make_module(make_circuit("a", x=("one",)), x="x")
        self.same([behaviour_of(module) == behaviour_of(ever), separating(module, ever) is None], [False, False])
        self.same([behaviour_of(module)[2][:2], behaviour_of(ever)[2][:2]], [((1,), (1,)), ((1,), (1,))])

    def test_one_node_at_a_time(self):
        setting = {"a": 0}
        play = Play(TIE, setting, state=((1,), ((0, 0),)))
        self.same([play.turn(many=100) < 100, bool(play)], [True, False])
        self.same(is_fair_loop(TIE, setting, (((0,), ((0, 1),)), ((("x", -1), ("x", 1)),) * 2)), True)

    def test_gates_that_are_held(self):
        bench = Bench(make_circuit("a", x=("or", "a", "x"), y=("and", "x", "a")), a=1)
        bench.watch("y")
        self.same(bench.apply(("gate", "x", (), (0,))), (("y", 1, 0),))
        known = known_values(CROSS, {"a": 0, "c": 1})
        self.same([known["p"], loop_gates(CROSS)], [1, ("p", "q", "u")])

    def test_ranks(self):
        circuit = make_circuit("a", p=("not", "a"), q=("not", "a"), x=("and", "p", "q"))
        self.same([ranks(circuit, {"a": 0})["x"], len(derivation(circuit, {"a": 0}, "x"))], [2, 3])
        self.same(format_lines(derive_all(circuit, {"a": 0})), "p 1 0; q 1 0; x 1 0 1")
        play = Play(make_circuit("a", x=("buffer", "a")), {"a": 1})
        self.same([play.rush(), play.rounds, play.state[0]], [1, 1, (0,)])

    def test_states_of_rest_are_steady(self):
        for circuit in small_circuits(30, 1, 4):
            for setting in settings_of(circuit, (0, 1)):
                whole = [values for values in steady_values(circuit, setting) if 2 not in values.values()]
                self.same([state[0] for state in rest_states(circuit, setting)], [tuple(values.values()) for values in whole])
        self.same([len(rows) for rows in (all_rows((0, 1), 2), all_rows((0, 1, 2), 2))], [4, 9])
        self.same(str(Bench(OSC, a=1)), "bench of 1 gates, 1 unknown")
        self.refuses(TooMany, compiled_from, {"x": "&".join("abcdefghijklm")})


if __name__ == "__main__":
    unittest.main()
