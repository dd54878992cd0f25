"""Points 13.1 and 13.2: surroundings of modules and behaviours."""

import random
import unittest

from loopgates.circuits.circuits import circuit_from, gate_names, is_circuit, make_circuit
from loopgates.errors import InvalidModule, InvalidOperation, TooMany
from loopgates.modules.behaviours import (
    answer, behaviour_by, behaviour_of, first_unlike, is_module, make_module, module_from)
from loopgates.modules.surroundings import closed_circuit, is_separating, is_surrounding, result, separating
from loopgates.settling.known import known_values
from tests import oracle
from tests.samples import Case, EMPTY, LUCKY, TIE, all_rows, chain, odd_values, random_circuit, ring, word_like
from tests.test_behaviours import CHOICE, KEEP, LATE, some_modules

EVER = make_module(make_circuit("a", out=("one",)), out="out")
PASS = make_module(make_circuit(*"abcde"), **{port: port for port in "abcde"})


def ports_of(part):
    """Return the input ports and the output ports of a module or a behaviour."""
    if len(part) == 3:
        return part[:2]
    return part[0][0], tuple(port for port, _ in part[1])


def some_surrounding(part, dice, gates=4):
    """Return a surrounding of a part by chance."""
    inputs, outputs = ports_of(part)
    names = [word_like(k) for k in range(1 + dice.randrange(gates))]
    # Names of gates may be names of input ports.
    names += [port for port in inputs if port not in outputs and dice.randint(0, 1)]
    sources = [*outputs, *names]
    made = {}
    for name in names:
        wires = dice.randint(0, 3)
        made[name] = (tuple(dice.randint(0, 1) for _ in range(2 ** wires)), *[dice.choice(sources) for _ in range(wires)])
    ports = list(inputs)
    dice.shuffle(ports)
    return circuit_from(outputs, made), {port: dice.choice(sources) for port in ports}, dice.choice(names)


def defined(part, surrounding):
    """Return the result by the words: the least values with which all gates and the part agree."""
    circuit, feeds, gate = surrounding
    inputs, outputs = ports_of(part)
    behaviour = part if len(part) == 3 else behaviour_of(part)
    values = {name: 2 for name in [*outputs, *gate_names(circuit)]}
    while True:
        after = {name: oracle.forced(table, [values[s] for s in sources]) for name, sources, table in circuit[1]}
        after.update(zip(outputs, answer(behaviour, tuple(values[feeds[port]] for port in inputs))))
        if after == values:
            return values[gate]
        values = after


class Results(Case):
    def test_examples(self):
        self.same(
            [first_unlike(behaviour_of(LATE), behaviour_of(EVER)), is_separating(LATE, EVER, separating(LATE, EVER)),
             separating(LATE, LATE)],
            [(2,), True, None])

    def test_against_the_words(self):
        found = {0: 0, 1: 0, 2: 0}
        for seed, module in enumerate(some_modules()):
            dice = random.Random(seed)
            for part in (module, behaviour_of(module)):
                for _ in range(6):
                    surrounding = some_surrounding(part, dice)
                    self.same(is_surrounding(part, surrounding), True)
                    value = self.pure(result, part, surrounding)
                    self.same(value, defined(part, surrounding), (part, surrounding))
                    found[value] += 1
        self.assertTrue(min(found.values()) > 20, found)

    def test_modules_and_their_behaviours_have_the_same_results(self):
        for seed, module in enumerate(some_modules()):
            dice = random.Random(seed + 99)
            for _ in range(6):
                surrounding = some_surrounding(module, dice)
                self.same(result(module, surrounding), result(behaviour_of(module), surrounding))

    def test_outputs_led_back(self):
        back = (make_circuit("x", g=("buffer", "x")), {"a": "x"}, "g")
        self.same([result(KEEP, back), result(behaviour_of(KEEP), back)], [2, 2])
        forced = (make_circuit("x", g=("or", "x", "h"), h=("one",)), {"a": "g"}, "g")
        self.same([result(KEEP, forced), defined(KEEP, forced)], [1, 1])
        turned = (make_circuit("out", n=("not", "out")), {"a": "n"}, "n")
        self.same([result(LATE, turned), result(EVER, turned), defined(LATE, turned)], [2, 0, 2])

    def test_five_outputs_led_back_one_after_another(self):
        feeds = {"e": "d", "d": "c", "c": "b", "b": "a", "a": "k"}
        for bit, word in ((0, "zero"), (1, "one")):
            closed = (make_circuit(*"abcde", k=(word,), g=("and", "e", "a"), h=("xor", "e", "b")), feeds, "g")
            self.same([result(part, closed) for part in (PASS, behaviour_of(PASS))], [bit, bit])
            self.same([result(part, (*closed[:2], "h")) for part in (PASS, behaviour_of(PASS))], [0, 0])
        unknown = (make_circuit(*"abcde", k=("buffer", "k"), g=("and", "e", "a")), feeds, "g")
        self.same(result(PASS, unknown), 2)
        around = (make_circuit(*"abcde", g=("or", "a", "b", "c", "d")), {**feeds, "a": "e"}, "g")
        self.same([result(PASS, around), result(behaviour_of(PASS), around)], [2, 2])

    def test_inputs_of_the_module_that_are_led_back_to_themselves(self):
        own = (make_circuit(*"abcde", g=("not", "c"), h=("one",)), {port: port for port in "abcde"}, "g")
        circuit, names = closed_circuit(PASS, own)
        self.same([result(PASS, own), known_values(circuit, {})[names["g"]], known_values(circuit, {})[names["h"]]], [2, 2, 1])

    def test_no_input_ports(self):
        part = make_module(make_circuit(y=("one",), z=("not", "z")), y="y", z="z")
        circuit = make_circuit("y", "z", g=("or", "y", "z"), h=("and", "y", "z"))
        self.same([result(part, (circuit, {}, gate)) for gate in "gh"], [1, 2])
        self.same(is_surrounding(part, (circuit, {"a": "y"}, "g")), False)


class Forms(Case):
    def test_what_is_no_surrounding(self):
        good = (make_circuit("x", g=("buffer", "x")), {"a": "g"}, "g")
        self.same([is_surrounding(KEEP, good), is_surrounding(behaviour_of(KEEP), good)], [True, True])
        circuit, feeds, gate = good
        for value in odd_values() + [
                list(good), good[:2], good + (0,), (circuit, feeds, "x"), (circuit, feeds, "h"), (circuit, feeds, "a"), (circuit, feeds, None),
                (circuit, feeds, ["g"]), (circuit, {}, gate), (circuit, {"a": "h"}, gate), (circuit, {"a": "a"}, gate), (circuit, {"b": "g"}, gate),
                (circuit, {"a": "g", "b": "g"}, gate), (circuit, {"a": ["g"]}, gate), (circuit, {"a": None}, gate), (circuit, {1: "g"}, gate),
                (circuit, [("a", "g")], gate), (circuit, (("a", "g"),), gate), (circuit, None, gate), (None, feeds, gate), ((), feeds, gate),
                (make_circuit("x", "y", g=("buffer", "x")), feeds, gate), (make_circuit(g=("one",)), feeds, gate),
                (make_circuit("a", g=("buffer", "a")), feeds, gate), (make_circuit("x"), {"a": "x"}, "x"), (list(circuit), feeds, gate),
                ((("x",), (("g", ("x",), (0, True)),)), feeds, gate), KEEP, behaviour_of(KEEP), (True, feeds, gate)]:
            self.same(is_surrounding(KEEP, value), False, value)
            self.same(is_separating(KEEP, KEEP, value), False, value)
            self.refuses(InvalidOperation, result, KEEP, value)
            self.refuses(InvalidOperation, result, behaviour_of(KEEP), value)
            self.refuses(InvalidOperation, closed_circuit, KEEP, value)

    def test_gates_with_names_of_input_ports_and_of_gates_of_the_module(self):
        part = make_module(make_circuit("a", n=("not", "a")), x="n")
        named = (make_circuit("x", a=("not", "x"), n=("one",)), {"a": "n"}, "a")
        circuit, names = closed_circuit(part, named)
        self.same([is_surrounding(part, named), result(part, named), sorted(names), known_values(circuit, {})[names["a"]]], [
            True, 1, ["a", "n"], 1])

    def test_errors(self):
        good = (make_circuit("x", g=("buffer", "x")), {"a": "g"}, "g")
        for value in odd_values() + [TIE, (TIE, ()), (KEEP,), list(KEEP), good, behaviour_of(KEEP)[:2]]:
            self.refuses(InvalidModule, is_surrounding, value, good)
            self.refuses(InvalidModule, result, value, None)
            self.refuses(InvalidModule, closed_circuit, value, None)
            self.refuses(InvalidModule, separating, value, KEEP)
            self.refuses(InvalidModule, separating, KEEP, value)
            self.refuses(InvalidModule, separating, LATE, value)
            self.refuses(InvalidModule, is_separating, KEEP, value, None)
            self.refuses(InvalidModule, is_separating, value, LATE, None)
        self.refuses(InvalidModule, closed_circuit, behaviour_of(KEEP), good)
        for other in (LATE, PASS, CHOICE, make_module(TIE, y="x"), make_module(LUCKY, x="y"), make_module(TIE, x="x", y="x")):
            for first, second in ((KEEP, other), (other, KEEP), (behaviour_of(KEEP), other)):
                self.refuses(InvalidOperation, separating, first, second)
                self.refuses(InvalidOperation, is_separating, first, second, good)


class Closed(Case):
    def test_against_the_result(self):
        for seed, module in enumerate(some_modules()):
            dice = random.Random(seed)
            for _ in range(4):
                circuit, feeds, _ = some_surrounding(module, dice)
                for gate in gate_names(circuit):
                    closed, names = self.pure(closed_circuit, module, (circuit, feeds, gate))
                    self.same([is_circuit(closed), closed[0], list(names)], [True, (), list(gate_names(circuit))])
                    self.assertEqual(len(set(names.values())), len(names))
                    self.same(oracle.known(closed, {})[names[gate]], result(module, (circuit, feeds, gate)))

    def test_how_many_gates(self):
        for gates, fits in ((50, True), (51, False)):
            module = make_module(chain(149), x=word_like(148))
            names = [word_like(k) for k in range(gates)]
            outer = circuit_from(("x",), {name: ("buffer", names[k - 1] if k else "x") for k, name in enumerate(names)})
            closed = (outer, {"a": names[0]}, names[-1])
            self.same(result(module, closed), 2)
            if fits:
                circuit, own = closed_circuit(module, closed)
                self.same([len(circuit[1]), known_values(circuit, {})[own[names[-1]]]], [200, 2])
            else:
                self.same(self.refuses(TooMany, closed_circuit, module, closed).limit, 200)
        module = make_module(ring(200), x=word_like(3))
        outer = (make_circuit("x", g=("one",)), {}, "g")
        self.same(result(module, outer), 1)
        self.same(self.refuses(TooMany, closed_circuit, module, outer).limit, 200)
        self.refuses(InvalidOperation, closed_circuit, module, (make_circuit("x"), {}, "g"))

    def test_returned_dicts_are_the_callers_own(self):
        surrounding = (make_circuit("x", g=("buffer", "x")), {"a": "g"}, "g")
        closed_circuit(KEEP, surrounding)[1].clear()
        found = separating(LATE, EVER)
        found[1].clear()
        self.same([list(closed_circuit(KEEP, surrounding)[1]), is_separating(LATE, EVER, separating(LATE, EVER))], [["g"], True])


class Separating(Case):
    def check(self, first, second):
        """Check what separates two parts, and return whether something does."""
        unlike = first_unlike(*[part if len(part) == 3 else behaviour_of(part) for part in (first, second)])
        found = self.pure(separating, first, second)
        self.same(found is None, unlike is None)
        if found is not None:
            self.same([is_surrounding(first, found), is_separating(first, second, found), is_separating(second, first, found)], [True] * 3)
            self.assertLessEqual(len(found[0][1]), len(ports_of(first)[0]) + 1)
            self.assertNotEqual(defined(first, found), defined(second, found))
        return found is not None

    def test_by_chance(self):
        told = [0, 0]
        for seed in range(120):
            dice = random.Random(seed)
            many = dice.randint(0, 4)
            parts = []
            for k in (seed, seed + 500):
                circuit = random_circuit(k, many, 3, 2)
                parts.append(module_from(circuit, {"p": "aaa", "q": dice.choice(["aab", *circuit[0]])}))
            told[self.check(*parts)] += 1
            self.check(parts[0], behaviour_of(parts[1]))
            self.same(self.check(parts[0], behaviour_of(parts[0])), False)
            for _ in range(4):
                surrounding = some_surrounding(parts[0], dice)
                self.same(is_separating(*parts, surrounding), defined(parts[0], surrounding) != defined(parts[1], surrounding))
        self.assertTrue(min(told) > 3, told)

    def test_answers_that_differ_only_at_partial_rows(self):
        self.same([self.check(LATE, EVER), self.check(behaviour_of(EVER), LATE)], [True, True])
        for many in range(1, 6):
            inputs = tuple("abcde"[:many])
            always = behaviour_by(inputs, ("x", "y"), lambda row: (1, 0))
            for late in ((2,) * many, (2,) + (1,) * (many - 1), (0,) * (many - 1) + (2,)):
                # Where the row is continued to more bits, the bit is there.
                weaker = behaviour_by(inputs, ("x", "y"), lambda row: (
                    1, 2 if all(mine in (2, value) for mine, value in zip(row, late)) else 0))
                self.same(self.check(always, weaker), True)
                self.same(first_unlike(always, weaker) is not None and 2 in first_unlike(always, weaker), True)

    def test_ports_with_names_of_fresh_gates(self):
        inputs, outputs = ("aaa", "aab"), ("aac", "aad")
        first = behaviour_by(inputs, outputs, lambda row: (2, 1))
        second = behaviour_by(inputs, outputs, lambda row: (2, row[0]))
        self.same(self.check(first, second), True)

    def test_no_input_ports(self):
        ones = [make_module(make_circuit(g=(word,)), x="g") for word in ("zero", "one")] + [make_module(ring(1), x="aaa")]
        for first in ones:
            for second in ones:
                self.same(self.check(first, second), first is not second)
        self.same(is_module(ones[0]), True)
        self.same(separating(make_module(TIE, x="x"), KEEP), None)

    def test_small_questions_by_the_thousand(self):
        surrounding = (make_circuit("x", g=("or", "x", "h"), h=("one",)), {"a": "h"}, "g")
        for _ in range(3000):
            self.assertEqual(result(KEEP, surrounding), 1)
        rows = all_rows((0, 1, 2), 1)
        self.same([len(rows), is_circuit(EMPTY)], [3, True])


if __name__ == "__main__":
    unittest.main()
