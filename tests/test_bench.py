"""Points 17.1 and 17.2: a bench under edits."""

import random
import unittest

from loopgates.base.tables import word_table
from loopgates.bench.bench import Bench
from loopgates.circuits.circuits import gate_names, is_circuit, make_circuit
from loopgates.errors import (
    Conflict, InvalidCircuit, InvalidEdit, InvalidNumber, InvalidSetting, NothingToUndo, UnknownName)
from loopgates.runs.flips import is_settling_paper
from loopgates.settling.causes import is_value_paper
from loopgates.settling.known import known_values
from tests import oracle
from tests.samples import CROSS, Case, EMPTY, LUCKY, MIXED, OSC, TIE, chain, greatest, odd_values, random_circuit, ring, word_like

ONE, NOT, OR, XOR = [word_table(word) for word in ("one", "not", "or", "xor")]


def shown(bench):
    """Return all that can be asked of a bench."""
    return (
        bench.circuit, bench.setting, bench.known, bench.watched, bench.groups, len(bench), str(bench), bench.unknown(),
        [bench[name] for name in bench.circuit[0] + gate_names(bench.circuit)])


def undone(bench):
    """Return how many groups can be done again."""
    many = 0
    twin = []

    def call(own):
        nonlocal many
        while True:
            try:
                own.redo()
            except NothingToUndo:
                break
            many += 1
        twin.append(many)

    bench.during((), call)
    return many


class SlowBench:
    """A bench by the words: everything is worked out anew from a list of circuits and settings."""

    def __init__(self, circuit, setting):
        self.moments = [(circuit, setting)]
        self.groups = []
        self.at = 0
        self.watched = []

    @property
    def circuit(self):
        return self.moments[self.at][0]

    @property
    def setting(self):
        return self.moments[self.at][1]

    @property
    def known(self):
        return oracle.known(*self.moments[self.at])

    def alter(self, edits):
        """Return the circuit and the setting after edits, or the error and its value."""
        inputs, gates = dict(self.setting), {gate[0]: gate for gate in self.circuit[1]}
        for kind, name, *rest in edits:
            if kind == "gate":
                if name in inputs:
                    return Conflict, name
                gates[name] = (name, *rest)
            elif kind == "input":
                if name in inputs or name in gates:
                    return Conflict, name
                inputs[name] = 2
            elif name not in (gates if kind == "remove" else inputs):
                return UnknownName, name
            elif kind == "set":
                inputs[name] = rest[0]
            else:
                del (gates if kind == "remove" else inputs)[name]
        circuit = (tuple(sorted(inputs)), tuple(gates[name] for name in sorted(gates)))
        if not is_circuit(circuit):
            return InvalidCircuit, None
        return circuit, {name: inputs[name] for name in sorted(inputs)}

    def news(self, before):
        after = self.known
        names = sorted(name for name in self.watched if before.get(name) != after.get(name))
        return tuple((name, before.get(name), after.get(name)) for name in names)

    def apply(self, edits, result):
        before = self.known
        self.groups[self.at:] = [edits]
        self.moments[self.at + 1:] = [result]
        self.at += 1
        return self.news(before)

    def go(self, many):
        before = self.known
        self.at += many
        return self.news(before)


def some_edit(dice, circuit):
    """Return an edit by chance, which is mostly possible."""
    names = ["aa", "bb", "cc", "dd", "ee", "ff"]
    inputs = ["r", "s", "t", "aa"]
    sources = [*circuit[0], *gate_names(circuit), dice.choice(names)]
    kind = dice.choice(("gate", "gate", "gate", "remove", "input", "lose", "set", "set", "set"))
    if kind == "gate":
        wires = dice.randint(0, 3)
        table = tuple(dice.randint(0, 1) for _ in range(2 ** wires))
        return (kind, dice.choice(names), tuple(dice.choice(sources) for _ in range(wires)), table)
    if kind == "remove":
        return (kind, dice.choice(names))
    if kind == "set":
        return (kind, dice.choice([*circuit[0], dice.choice(inputs)]), dice.choice((0, 1, 2)))
    return (kind, dice.choice(inputs))


class Benches(Case):
    def alike(self, bench, slow):
        """Check that a bench answers as the slow one does."""
        known = slow.known
        self.same([bench.circuit, bench.setting, bench.known], [slow.circuit, slow.setting, known])
        self.same([bench.watched, bench.groups], [tuple(sorted(slow.watched)), tuple(slow.groups[:slow.at])])
        unknown = tuple(name for name in known if known[name] == 2)
        self.same([bench.unknown(), len(bench)], [unknown, len(known)])
        self.same(str(bench), f"bench of {len(known)} gates, {len(unknown)} unknown")
        for name in known:
            self.same([bench[name], name in bench], [known[name], True])
        for name in slow.circuit[0]:
            self.same([bench[name], name in bench], [slow.setting[name], False])
        self.same(bench == Bench.of(slow.circuit, slow.setting), True)
        self.same(known_values(bench.circuit, bench.setting), bench.known)

    def test_example(self):
        bench = Bench(TIE, a=0)
        self.same(
            [bench.watch("x"), bench.change(a=1), bench.apply(("gate", "x", ("a", "x"), XOR)), bench["x"], bench.undo(many=2), bench.known],
            [None, (("x", 2, 1),), (("x", 1, 2),), 2, (), {"x": 2}])

    def test_new_benches(self):
        self.same(shown(Bench(CROSS, c=1)), (
            CROSS, {"a": 2, "c": 1}, {"p": 2, "q": 2, "u": 2}, (), (), 3, "bench of 3 gates, 3 unknown", ("p", "q", "u"), [2, 1, 2, 2, 2]))
        self.same(shown(Bench(EMPTY)), (EMPTY, {}, {}, (), (), 0, "bench of 0 gates, 0 unknown", (), []))
        self.same(Bench.of(CROSS, {"c": 1, "a": 0}).known, {"p": 1, "q": 0, "u": 0})
        self.same(list(Bench.of(CROSS, {"c": 1, "a": 0}).setting), ["a", "c"])
        circuit = make_circuit("circuit", "setting", "self", x=("and", "circuit", "setting", "self"))
        bench = Bench.of(circuit, {"circuit": 1, "self": 0})
        self.same([bench.setting, bench.known], [{"circuit": 1, "self": 0, "setting": 2}, {"x": 0}])
        self.same(bench.change_by({"self": 1, "setting": 1}), ())
        self.same(bench.known, {"x": 1})

    def test_any_history_against_the_words(self):
        kinds = {"done": 0, Conflict: 0, UnknownName: 0, InvalidCircuit: 0}
        for seed in range(60):
            dice = random.Random(seed)
            circuit = make_circuit("s", aa=("or", "aa", "s"), bb=("nand", "aa", "cc"), cc=("buffer", "bb")) if seed % 2 else EMPTY
            setting = {name: dice.choice((0, 1, 2)) for name in circuit[0]}
            bench, slow = Bench(circuit, **setting), SlowBench(circuit, setting)
            self.alike(bench, slow)
            for _ in range(40):
                self.deed(dice, bench, slow, kinds)
                self.alike(bench, slow)
        self.assertTrue(min(kinds.values()) > 20, kinds)

    def deed(self, dice, bench, slow, kinds):
        """Do the same deed, found by chance, with both."""
        kind = dice.choice(("apply", "apply", "apply", "change", "undo", "redo", "watch", "unwatch", "during"))
        if kind == "apply":
            edits = tuple(some_edit(dice, slow.circuit) for _ in range(dice.choice((1, 1, 2, 3))))
            self.group(bench, slow, edits, kinds, dice.choice((bench.apply_all, lambda edits: bench.apply(*edits))))
        elif kind == "change":
            names = dice.sample(slow.circuit[0], dice.randint(0, len(slow.circuit[0])))
            values = {name: dice.choice((0, 1, 2)) for name in names}
            edits = tuple(("set", name, values[name]) for name in sorted(values))
            call = dice.choice((bench.change_by, lambda values: bench.change(**values)))
            if edits:
                self.same(call(values), slow.apply(edits, slow.alter(edits)))
            else:
                self.same(call(values), ())
        elif kind in ("undo", "redo"):
            most = slow.at if kind == "undo" else len(slow.groups) - slow.at
            many = dice.randint(0, most)
            call = bench.undo if kind == "undo" else bench.redo
            self.same(self.refuses(NothingToUndo, call, many=most + 1).many, most + 1)
            self.same(call(many=many), slow.go(-many if kind == "undo" else many))
        elif kind == "watch":
            names = [name for name in slow.known if name not in slow.watched]
            names = dice.sample(names, min(len(names), 2))
            self.same(bench.watch(*names), None)
            slow.watched.extend(names)
        elif kind == "unwatch" and slow.watched:
            self.same(bench.unwatch(slow.watched[0]), None)
            slow.watched.pop(0)
        elif kind == "during":
            before = shown(bench)
            edits = tuple(some_edit(dice, slow.circuit) for _ in range(2))
            result = slow.alter(edits)
            if isinstance(result[0], tuple):
                inside = bench.during(edits, lambda own: (own.circuit, own.setting, own.undo(), own.circuit, own.groups))
                self.same(inside, (*result, slow.news(oracle.known(*result)), slow.circuit, tuple(slow.groups[:slow.at])))
            else:
                self.refuses(result[0], bench.during, edits, None)
            self.same(shown(bench), before)

    def group(self, bench, slow, edits, kinds, call):
        """Do a group with both, or check the error."""
        result = slow.alter(edits)
        if isinstance(result[0], tuple):
            self.same(call(edits), slow.apply(edits, result))
            kinds["done"] += 1
        else:
            before = shown(bench)
            error = self.refuses(result[0], call, edits)
            if result[0] is not InvalidCircuit:
                self.same(error.name, result[1])
            self.same(shown(bench), before)
            kinds[result[0]] += 1


class Groups(Case):
    def test_every_kind_of_edit(self):
        bench = Bench(EMPTY)
        for edit, circuit, setting, known in (
                (("input", "a"), (("a",), ()), {"a": 2}, {}),
                (("gate", "x", ("a", "x"), OR), TIE, {"a": 2}, {"x": 2}),
                (("set", "a", 1), TIE, {"a": 1}, {"x": 1}),
                (("gate", "x", ("a",), NOT), make_circuit("a", x=("not", "a")), {"a": 1}, {"x": 0}),
                (("gate", "y", (), ONE), make_circuit("a", x=("not", "a"), y=("one",)), {"a": 1}, {"x": 0, "y": 1}),
                (("remove", "x"), make_circuit("a", y=("one",)), {"a": 1}, {"y": 1}),
                (("lose", "a"), make_circuit(y=("one",)), {}, {"y": 1})):
            self.same(bench.apply(edit), ())
            self.same([bench.circuit, bench.setting, bench.known], [circuit, setting, known])
            self.same(bench.groups[-1], (edit,))
        self.same([len(bench.groups), bench.undo(many=7), bench.circuit, bench.groups], [7, (), EMPTY, ()])
        self.same([bench.redo(many=7), bench.circuit, len(bench.groups)], [(), make_circuit(y=("one",)), 7])

    def test_edits_that_are_possible_only_together(self):
        bench = Bench(LUCKY)
        self.refuses(InvalidCircuit, bench.apply, ("remove", "n"))
        self.same(bench.apply(("remove", "n"), ("remove", "y")), ())
        self.refuses(InvalidCircuit, bench.apply, ("gate", "n", ("y",), NOT))
        self.same(bench.apply(("gate", "n", ("y",), NOT), ("gate", "y", ("n", "y"), OR)), ())
        self.same(bench.circuit, LUCKY)
        self.same(bench.apply(("remove", "n"), ("input", "n"), ("set", "n", 1)), ())
        self.same([bench.circuit, bench.known], [make_circuit("n", y=("or", "n", "y")), {"y": 1}])
        self.same(bench.apply(("lose", "n"), ("gate", "n", (), ONE)), ())
        self.same([bench.circuit, bench.setting], [make_circuit(n=("one",), y=("or", "n", "y")), {}])
        self.same(bench.apply(("input", "b"), ("lose", "b")), ())

    def test_groups_of_which_one_is_impossible(self):
        bench = Bench(TIE, a=1)
        bench.watch("x")
        before = shown(bench)
        good = ("gate", "y", ("x",), NOT)
        for edits, kind, value in (
                ((good, ("remove", "z")), UnknownName, "z"), ((good, ("remove", "a")), UnknownName, "a"), ((good, ("remove", "y"), ("remove", "y")), UnknownName, "y"),
                ((good, ("lose", "x")), UnknownName, "x"), ((good, ("lose", "y")), UnknownName, "y"), ((("lose", "a"), ("set", "a", 0)), UnknownName, "a"),
                ((good, ("set", "x", 1)), UnknownName, "x"), ((good, ("input", "a")), Conflict, "a"), ((good, ("input", "x")), Conflict, "x"),
                ((good, ("input", "y")), Conflict, "y"), ((("input", "b"), ("input", "b")), Conflict, "b"), ((good, ("gate", "a", (), ONE)), Conflict, "a"),
                ((("input", "b"), ("gate", "b", ("b",), NOT)), Conflict, "b"), ((good, ("set", "z", 1), ("input", "a")), UnknownName, "z"),
                ((good, ("input", "a"), ("set", "z", 1)), Conflict, "a"), ((("lose", "a"), ("remove", "q")), UnknownName, "q")):
            self.same(self.refuses(kind, bench.apply, *edits).name, value)
            self.same(self.refuses(kind, bench.apply_all, edits).name, value)
            self.same(shown(bench), before)
        for edits in ((("lose", "a"),), (("gate", "y", ("z",), NOT),), (("gate", "y", ("x",), OR),), (("gate", "y", ("x", "x"), NOT),), (good, ("remove", "x")),
                      (("gate", "y", ("x",) * 5, (0,) * 16),), (("gate", "y", ("y",), ONE),), tuple(("input", word_like(k)) for k in range(12))):
            self.refuses(InvalidCircuit, bench.apply, *edits)
            self.same(shown(bench), before)
        bench.apply(*[("input", word_like(k)) for k in range(11)])
        self.refuses(InvalidCircuit, bench.apply, ("input", "zz"))
        self.same(bench.apply(("input", "zz"), ("lose", "aaa")), ())
        full = Bench(ring(200))
        self.refuses(InvalidCircuit, full.apply, ("gate", "x", (), ONE))
        self.same([full.apply(("gate", "x", (), ONE), ("gate", "aab", ("x",), NOT), ("remove", "aaa")), len(full)], [(), 200])

    def test_forms_of_edits(self):
        bench = Bench(TIE, a=1)
        before = shown(bench)
        for value in odd_values() + [
                ("gate", "x"), ("gate", "x", (), ONE, 0), ("gate", "X", (), ONE), ("gate", "x", [], ONE), ("gate", "x", (), [1]), ("gate", "x", ("A",), NOT),
                ("gate", "x", ("a",), (1, True)), ("gate", "x", ("a",), (1, 0, 0)), ("gate", "x", "a", NOT), ("gate", "x", (1,), NOT), ("gate", 1, (), ONE),
                ("remove",), ("remove", "x", 0), ("remove", 1), ("remove", None), ("remove", ["x"]), ("remove", ""), ("input", "a b"), ("input", True), ("input",),
                ("lose", "aaaaaaaaa"), ("lose", ("a",)), ("set", "a"), ("set", "a", 3), ("set", "a", True), ("set", "a", None), ("set", "a", "1"), ("set", 0, 1),
                ("set", "a", -1), ("Set", "a", 1), ("", "a"), (None, "a"), (1, "a"), (("set",), "a", 1), ["remove", "x"], {"set": 1}, ("set", "a", (1,)), (["set"], "a", 1)]:
            self.refuses(InvalidEdit, bench.apply, value)
            self.refuses(InvalidEdit, bench.apply, ("remove", "nothing"), value)
            self.refuses(InvalidEdit, bench.apply_all, (("lose", "a"), value))
            self.refuses(InvalidEdit, bench.during, (value,), None)
            if value != ():
                self.refuses(InvalidEdit, bench.apply_all, value)
            self.same(shown(bench), before)
        self.refuses(InvalidEdit, bench.apply_all, [("set", "a", 1)])
        self.refuses(InvalidEdit, bench.during, None, None)

    def test_groups_without_edits(self):
        bench = Bench(TIE, a=1)
        bench.apply(("set", "a", 0))
        bench.undo()
        before = shown(bench)
        self.same([bench.apply(), bench.apply_all(()), bench.change(), bench.change_by({}), bench.undo(many=0), bench.redo(many=0)], [()] * 6)
        self.same([shown(bench), undone(bench)], [before, 1])
        self.same([bench.apply(("set", "a", 1)), undone(bench), len(bench.groups)], [(), 0, 1])

    def test_changes(self):
        bench = Bench(CROSS)
        bench.watch("q", "p", "u")
        self.same(bench.change(c=1, a=0), (("p", 2, 1), ("q", 2, 0), ("u", 2, 0)))
        self.same(bench.groups, ((("set", "a", 0), ("set", "c", 1)),))
        bench.setting = {"a": 1}
        self.same([bench.setting, bench.known, len(bench.groups)], [{"a": 1, "c": 1}, {"p": 0, "q": 1, "u": 1}, 2])
        self.same(bench.change_by({"c": 2}), (("p", 0, 2), ("q", 1, 2), ("u", 1, 2)))
        self.same(bench.change(c=2), ())
        self.same(len(bench.groups), 4)
        before = shown(bench)
        for value in odd_values() + [{"p": 1}, {"a": 1, "p": 1}, {"b": 0}, {"a": 0, 1: 0}]:
            if repr(value) not in ("{}", "{'a': 0}", "{'a': 1}", "{'a': 2}"):
                self.refuses(InvalidSetting, bench.change_by, value)
                with self.assertRaises(InvalidSetting):
                    bench.setting = value
            if not (type(value) is int and 0 <= value <= 2):
                self.refuses(InvalidSetting, bench.change, a=value)
                self.refuses(InvalidSetting, bench.change, a=1, c=value)
        self.refuses(InvalidSetting, bench.change, p=1)
        self.same(shown(bench), before)


class Watching(Case):
    def test_gates_that_are_removed_and_come_back(self):
        bench = Bench(make_circuit("a", x=("not", "a"), y=("one",)), a=1)
        bench.watch("x", "y")
        self.same(bench.apply(("remove", "x")), (("x", 0, None),))
        self.same([bench.watched, bench.apply(("input", "x"), ("set", "x", 1))], [("x", "y"), ()])
        self.same(bench.undo(), ())
        self.same(bench.apply(("gate", "x", (), ONE)), (("x", None, 1),))
        self.same([bench.undo(many=2), bench.redo(), bench.redo()], [(("x", 1, 0),), (("x", 0, None),), (("x", None, 1),)])
        bench.apply(("remove", "x"), ("remove", "y"))
        self.same([bench.watched, len(bench), self.refuses(UnknownName, bench.watch, "x").name], [("x", "y"), 0, "x"])
        self.same([bench.unwatch("x"), bench.watched, bench.apply(("gate", "x", (), ONE)), bench.watch("x"), bench.watched], [
            None, ("y",), (), None, ("x", "y")])

    def test_errors(self):
        bench = Bench(CROSS)
        self.same([bench.watch(), bench.unwatch(), bench.watch("q"), bench.watched], [None, None, None, ("q",)])
        before = shown(bench)
        for value in odd_values() + ["pp", "a", "c", ["p"]]:
            self.same(self.refuses(UnknownName, bench.watch, value).name, value)
            self.same(self.refuses(UnknownName, bench.watch, "q", "p", "p", value, "zz").name, value)
            self.same(self.refuses(UnknownName, bench.unwatch, value).name, value)
            self.same(self.refuses(UnknownName, bench.unwatch, "q", "q", value).name, value)
        self.same(self.refuses(UnknownName, bench.unwatch, "p").name, "p")
        self.same(self.refuses(Conflict, bench.watch, "q").name, "q")
        self.same(self.refuses(Conflict, bench.watch, "p", "u", "p", "q").name, "p")
        self.same(self.refuses(Conflict, bench.watch, "p", "q", "p").name, "q")
        self.same(self.refuses(Conflict, bench.unwatch, "q", "q").name, "q")
        self.same(shown(bench), before)

    def test_news_of_several_groups_at_once(self):
        bench = Bench(TIE, a=0)
        bench.watch("x")
        self.same([bench.change(a=1), bench.change(a=2), bench.change(a=1), bench.change(a=1)], [(("x", 2, 1),), (("x", 1, 2),), (("x", 2, 1),), ()])
        self.same([bench.undo(many=2), bench.undo(many=2), bench.redo(many=3), bench.redo()], [(("x", 1, 2),), (), (("x", 2, 1),), ()])
        bench.undo(many=4)
        bench.unwatch("x")
        self.same(bench.redo(many=4), ())


class Back(Case):
    def test_how_many(self):
        bench = Bench(TIE, a=0)
        bench.change(a=1)
        bench.change(a=2)
        bench.undo()
        before = shown(bench)
        for call in (bench.undo, bench.redo):
            for value in odd_values() + [True, -1]:
                if not (type(value) is int and value >= 0):
                    self.same(self.refuses(InvalidNumber, call, many=value).value, value)
            for many in (2, 3, 10 ** 39):
                self.same(self.refuses(NothingToUndo, call, many=many).many, many)
        self.same([shown(bench), undone(bench)], [before, 1])

    def test_a_new_group_behind_an_undone_one(self):
        bench = Bench(TIE, a=0)
        bench.change(a=1)
        bench.change(a=2)
        bench.undo(many=2)
        self.same(undone(bench), 2)
        self.refuses(UnknownName, bench.apply, ("remove", "y"))
        self.same(undone(bench), 2)
        bench.apply(("gate", "y", (), ONE))
        self.same([undone(bench), bench.groups, self.refuses(NothingToUndo, bench.redo).many], [0, ((("gate", "y", (), ONE),),), 1])
        self.same([bench.undo(), bench.setting, bench.circuit], [(), {"a": 0}, TIE])


class During(Case):
    def test_what_calls_may_do(self):
        bench = Bench(TIE, a=0)
        bench.watch("x")
        bench.change(a=1)
        bench.change(a=2)
        bench.undo()
        before = shown(bench)

        def edits(own):
            own.apply(("gate", "y", ("x",), NOT), ("remove", "x"), ("gate", "x", (), ONE))
            own.change(a=0)
            own.undo(many=3)
            own.redo()
            return own.known

        def watches(own):
            own.unwatch("x")
            own.apply(("gate", "y", (), ONE))
            own.watch("y")
            own.setting = {"a": 0}
            return own.watched

        def tries(own):
            inside = own.during((("set", "a", 0),), lambda other: (other is own, other["x"], other.undo(), other.during((), len)))
            return inside, own["x"], own["a"]

        self.same(bench.during((("set", "a", 1),), edits), {"x": 1})
        self.same([shown(bench), undone(bench)], [before, 1])
        self.same(bench.during((), watches), ("y",))
        self.same([shown(bench), undone(bench)], [before, 1])
        self.same(bench.during((("gate", "x", ("a",), NOT),), tries), ((True, 1, (("x", 1, 0),), 1), 0, 1))
        self.same([shown(bench), undone(bench)], [before, 1])
        self.same(bench.during((("lose", "a"), ("remove", "x")), lambda own: (len(own), own.circuit, undone(own))), (0, EMPTY, 0))
        self.same([shown(bench), undone(bench), bench.redo(), bench["a"]], [before, 1, (("x", 1, 2),), 2])

    def test_calls_that_raise(self):
        bench = Bench(CROSS, a=0, c=1)
        bench.watch("p")
        bench.change(a=1)
        before = shown(bench)

        def call(own):
            own.unwatch("p")
            own.undo(many=2)
            raise KeyError("mine")

        self.refuses(KeyError, bench.during, (("set", "c", 0),), call)
        self.same(shown(bench), before)
        self.refuses(NothingToUndo, bench.during, (("set", "c", 0),), lambda own: own.undo(many=9))
        self.same(self.refuses(UnknownName, bench.during, (), lambda own: own["zz"]).name, "zz")
        self.refuses(TypeError, bench.during, (("set", "c", 0),), None)
        self.same(shown(bench), before)

    def test_errors_of_the_edits(self):
        bench = Bench(TIE)
        asked = []
        self.same(self.refuses(UnknownName, bench.during, (("remove", "q"),), asked.append).name, "q")
        self.refuses(InvalidCircuit, bench.during, (("lose", "a"),), asked.append)
        self.refuses(InvalidEdit, bench.during, [], asked.append)
        self.same([asked, shown(bench)], [[], shown(Bench(TIE))])


class Answers(Case):
    def test_why(self):
        for circuit in (TIE, OSC, CROSS, LUCKY, MIXED):
            for value in (0, 1, 2):
                setting = {name: value for name in circuit[0]}
                bench = Bench.of(circuit, setting)
                for gate in gate_names(circuit):
                    paper = self.pure(bench.why, gate)
                    judge = is_value_paper if 2 in setting.values() else is_settling_paper
                    self.same(judge(circuit, setting, gate, paper), True)
                    if paper[0] == "steady":
                        paper[1].clear()
                        self.same(len(bench.why(gate)[1]), len(circuit[1]))
        self.same([Bench(TIE, a=1).why("x"), Bench(TIE).why("x"), Bench(LUCKY).why("y")[0], Bench(CROSS, a=1).why("p")[0]], [
            ("settles", 1, (("x", 1, (0,)),)), ("steady", {"x": 2}), "flips", "steady"])
        for value in odd_values() + ["a", "c"]:
            self.same(self.refuses(UnknownName, Bench(CROSS).why, value).name, value)
            self.same(self.refuses(UnknownName, Bench(CROSS, a=1, c=0).why, value).name, value)

    def test_names(self):
        bench = Bench(CROSS, c=0)
        for value in odd_values() + [bench, CROSS, ("p",), ["p"]]:
            if value not in ("a",):
                self.same(self.refuses(UnknownName, lambda: bench[value]).name, value)
            self.same(value in bench, False)
        self.same([bench["a"], bench["c"], bench["p"], "p" in bench, "a" in bench, len(bench)], [2, 0, 2, True, False, 3])

    def test_equality_and_twins(self):
        bench = Bench(TIE, a=0)
        bench.watch("x")
        bench.change(a=1)
        twin = bench.twin()
        self.same([shown(twin)[:3], twin.watched, twin.groups, bench == twin], [shown(bench)[:3], (), (), True])
        self.refuses(NothingToUndo, twin.undo)
        twin.apply(("gate", "y", (), ONE))
        self.same([bench == twin, len(bench), len(twin), twin.undo(), bench == twin], [False, 1, 2, (), True])
        bench.undo()
        self.same([bench == twin, bench == Bench(TIE, a=0), bench != Bench(OSC, a=0), Bench(TIE) == Bench(TIE, a=2)], [False, True, True, True])
        for value in odd_values() + [TIE, shown(bench)]:
            self.same([bench == value, value == bench, bench != value], [False, False, True])

    def test_no_iteration(self):
        for bench in (Bench(CROSS), Bench(EMPTY)):
            for call in (iter, list, tuple, sorted, enumerate, dict):
                self.refuses(TypeError, call, bench)

    def test_no_access_to_the_state(self):
        setting = {"a": 0, "c": 1}
        bench = Bench.of(CROSS, setting)
        before = shown(bench)
        setting["a"] = 1
        bench.known.clear()
        bench.setting["a"] = 1
        self.same(shown(bench), before)
        values = {"a": 1}
        bench.change_by(values)
        values["a"] = 0
        self.same([bench["a"], bench.groups], [1, ((("set", "a", 1),),)])
        for name in ("circuit", "known", "watched", "groups"):
            with self.assertRaises(AttributeError):
                setattr(bench, name, None)

    def test_errors_of_making(self):
        for value in odd_values():
            if value != (("a",), ()):
                self.refuses(InvalidCircuit, Bench, value)
                self.refuses(InvalidCircuit, Bench, value, a=3)
                self.refuses(InvalidCircuit, Bench.of, value, None)
            if repr(value) not in ("{}", "{'a': 0}", "{'a': 1}", "{'a': 2}"):
                self.refuses(InvalidSetting, Bench.of, CROSS, value)
            if not (type(value) is int and 0 <= value <= 2):
                self.refuses(InvalidSetting, Bench, CROSS, a=value)
        self.refuses(InvalidSetting, Bench, CROSS, p=1)
        self.refuses(InvalidSetting, Bench.of, CROSS, {"a": 1, "u": 1})


class Great(Case):
    def test_chains(self):
        bench = Bench(chain(100), a=0)
        names = gate_names(bench.circuit)
        bench.watch(names[-1])
        for k in range(300):
            self.same(bench.change(a=1 - k % 2), ((names[-1], k % 2, 1 - k % 2),))
        self.same(bench.known, known_values(chain(100), bench.setting))
        self.same([len(bench.groups), bench.undo(many=300), bench["a"]], [300, (), 0])
        for k in range(99):
            bench.apply(("gate", names[k], (names[k - 1] if k else "a",), (0, 1)))
        self.same([bench["a"], bench[names[98]], bench[names[99]]], [0, 0, 1])
        self.same([bench.apply(("gate", names[50], (names[99],), NOT)), bench.unknown()], [((names[99], 1, 2),), names[50:]])

    def test_great_circuits(self):
        circuit = greatest()
        bench = Bench(circuit)
        dice = random.Random(2)
        for _ in range(60):
            name = dice.choice(circuit[0])
            bench.change_by({name: dice.choice((0, 1, 2))})
        self.same(bench.known, known_values(circuit, bench.setting))
        other = Bench(random_circuit(8, 3, 60, 3))
        for gate in gate_names(other.circuit)[::-1]:
            other.apply(("gate", gate, (), ONE))
        self.same(set(other.known.values()), {1})

    def test_small_questions_by_the_thousand(self):
        bench = Bench(CROSS, a=0, c=0)
        bench.watch("p", "q", "u")
        for k in range(3000):
            bench.change(a=k % 2)
            self.assertEqual(bench["u"], k % 2)
            self.assertEqual(len(bench.known), 3)
        self.same([bench.undo(many=3000), bench.redo(many=2999)], [(("p", 0, 1), ("q", 0, 1), ("u", 1, 0)), ()])


if __name__ == "__main__":
    unittest.main()
