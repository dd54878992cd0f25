"""Points 11.1 to 11.3: modules and behaviours."""

import random
import unittest

from loopgates.circuits.circuits import circuit_from, make_circuit
from loopgates.errors import (
    InvalidBehaviour, InvalidCircuit, InvalidModule, InvalidNumber, InvalidOperation, InvalidRow, TooMany, UnknownName)
from loopgates.modules import behaviours
from loopgates.modules.behaviours import (
    answer, behaviour_by, behaviour_from, behaviour_of, behaviour_of_primes, first_unlike, is_behaviour, is_module, make_module,
    module_from, output_primes)
from tests import oracle
from tests.samples import (
    CROSS, Case, EMPTY, LUCKY, MIXED, OSC, TIE, all_rows, greatest, odd_values, random_circuit, replaced, ring, word_like)

KEEP = make_module(TIE, x="x")
LATE = make_module(make_circuit("a", n=("not", "a"), out=("or", "a", "n")), out="out")
CHOICE = behaviour_of(make_module(make_circuit("a", "b", "c", out=("choose", "a", "b", "c")), out="out"))
PORTS = ("p", "q", "r", "s", "t", "u")


def some_modules():
    """Return modules with zero to five inputs and one to six outputs."""
    found = [KEEP, LATE, make_module(CROSS, p="p", q="u", r="a"), make_module(LUCKY, n="n"), make_module(make_circuit("a"), a="a")]
    for seed in range(40):
        dice = random.Random(seed)
        circuit = random_circuit(seed, seed % 6, 1 + seed % 7, 4)
        names = [*circuit[0], *[gate[0] for gate in circuit[1]]]
        found.append(module_from(circuit, {port: dice.choice(names) for port in PORTS[:1 + seed % 6]}))
    return found


def defined(module):
    """Return the behaviour of a module, from the definition."""
    circuit, outputs = module
    rows = []
    for row in all_rows((0, 1, 2), len(circuit[0])):
        setting = dict(zip(circuit[0], row))
        values = {**setting, **oracle.known(circuit, setting)}
        rows.append(tuple(values[name] for _, name in outputs))
    return (circuit[0], tuple(port for port, _ in outputs), tuple(rows))


def fits(row, other):
    """Return whether the second row continues the first one."""
    return all(mine in (2, value) for mine, value in zip(row, other))


class Modules(Case):
    def test_constants(self):
        self.same([behaviours.MAX_PORTS, behaviours.MAX_OUTPUTS], [5, 6])

    def test_made_modules(self):
        self.same(KEEP, (TIE, (("x", "x"),)))
        self.same(make_module(CROSS, z="a", p="u", b="u"), (CROSS, (("b", "u"), ("p", "u"), ("z", "a"))))
        self.same(module_from(CROSS, {"or": "p", "a": "p"}), (CROSS, (("a", "p"), ("or", "p"))))
        self.same(make_module(EMPTY_WITH := make_circuit("a"), a="a"), (EMPTY_WITH, (("a", "a"),)))
        for module in some_modules():
            self.same(is_module(module), True)

    def test_what_is_no_module(self):
        for value in odd_values() + [
                TIE, (TIE, ()), (TIE, (("x", "x"),), 0), [TIE, (("x", "x"),)], (TIE, [("x", "x")]), (TIE, (["x", "x"],)), (TIE, ("x", "x")),
                (TIE, (("x", "y"),)), (TIE, (("X", "x"),)), (TIE, (("x", "x"), ("x", "a"))), (TIE, (("y", "x"), ("x", "x"))),
                (TIE, (("x", "x"), ("x", "x"))), (TIE, (("x",),)), (TIE, (("x", "x", "x"),)), (TIE, ((1, "x"),)), (TIE, (("x", 1),)),
                (TIE, (("x", ["x"]),)), (TIE, ((None, "x"),)), (TIE, {"x": "x"}), (TIE, None), ((), (("x", "x"),)),
                (TIE, tuple((port, "x") for port in "abcdefg")), (make_circuit(*"abcdef"), (("x", "a"),)), (EMPTY, (("x", "x"),)),
                (TIE, (("", "x"),)), (TIE, (("abcdefghi", "x"),)), (TIE, (("x", ""),))]:
            self.same(is_module(value), False, value)
            self.refuses(InvalidModule, behaviour_of, value)
        self.same(is_module((TIE, tuple((port, "x") for port in "abcdef"))), True)
        self.same(is_module((make_circuit(*"abcde"), (("x", "a"),))), True)
        for value in list(replaced(TIE, True)) + list(replaced(TIE, False)):
            self.same(is_module((value, (("x", "x"),))), False)

    def test_errors_of_making(self):
        self.refuses(InvalidModule, make_module, TIE)
        self.refuses(InvalidModule, make_module, TIE, x="y")
        self.refuses(InvalidModule, make_module, TIE, X="x")
        self.refuses(InvalidModule, make_module, TIE, **{port: "x" for port in "abcdefg"})
        for value in odd_values():
            if value != (("a",), ()):
                self.refuses(InvalidCircuit, module_from, value, None)
                self.refuses(InvalidCircuit, make_module, value, x="a")
            if value not in ("x", "a"):
                self.refuses(InvalidModule, make_module, TIE, x=value)
            self.refuses(InvalidModule, module_from, TIE, value)
        for outputs in ({1: "x"}, {("x",): "x"}, {None: "x", "x": "x"}, {"x": "x", 1: "x"}, {True: "x"}, {"": "x"}, {"x": ["x"]}):
            self.refuses(InvalidModule, module_from, TIE, outputs)
        six = make_circuit(*"abcdef", x=("and", "a", "f"))
        self.same(self.refuses(TooMany, make_module, six, x="x").limit, 5)
        self.refuses(InvalidModule, make_module, six, x="y")
        self.refuses(InvalidModule, module_from, six, {})
        self.same(self.refuses(TooMany, module_from, greatest(), {"x": "a"}).limit, 5)

    def test_arguments_stay(self):
        outputs = {"q": "x", "p": "a"}
        self.same(self.pure(module_from, TIE, outputs), (TIE, (("p", "a"), ("q", "x"))))
        self.same(list(outputs), ["q", "p"])


class Behaviours(Case):
    def test_examples(self):
        self.same(
            [answer(CHOICE, (0, 1, 2)), answer(CHOICE, (2, 1, 1)), answer(CHOICE, (2, 0, 1)), output_primes(CHOICE, "out", 1)],
            [(1,), (1,), (2,), ((0, 1, 2), (1, 2, 1), (2, 1, 1))])
        self.same(behaviour_of(KEEP), (("a",), ("x",), ((2,), (1,), (2,))))

    def test_behaviours_of_modules(self):
        for module in some_modules():
            behaviour = behaviour_of(module)
            self.same(behaviour, defined(module))
            self.same(is_behaviour(behaviour), True)
            self.same(behaviour_from(*behaviour), behaviour)
            rows = all_rows((0, 1, 2), len(behaviour[0]))
            self.same([answer(behaviour, row) for row in rows], list(behaviour[2]))
        circuit = random_circuit(1, 5, 200, 4)
        module = module_from(circuit, {port: gate[0] for port, gate in zip(PORTS, circuit[1][100:])})
        rows = random.Random(3).sample(all_rows((0, 1, 2), 5), 12)
        for row in rows:
            setting = dict(zip(circuit[0], row))
            known = oracle.known(circuit, setting)
            self.same(answer(behaviour_of(module), row), tuple(known[name] for _, name in module[1]))
        self.same(behaviour_of(module_from(ring(200), {"x": word_like(7)})), ((), ("x",), ((2,),)))

    def test_what_is_no_behaviour(self):
        good = (("a",), ("x",), ((0,), (1,), (2,)))
        self.same(is_behaviour(good), True)
        for value in odd_values() + [
                list(good), good[:2], good + (0,), (["a"], ("x",), good[2]), (("a",), ["x"], good[2]), (("a",), ("x",), list(good[2])),
                (("a",), ("x",), ([0], (1,), (2,))), (("a",), ("x",), ((0,), (1,))), (("a",), ("x",), good[2] + ((2,),)), (("a",), (), good[2]),
                (("a",), (), ((), (), ())), ((), ("x",), good[2]), (("a",), ("x", "y"), good[2]), (("A",), ("x",), good[2]), (("a",), ("X",), good[2]),
                (("b", "a"), ("x",), ((2,),) * 9), (("a", "a"), ("x",), ((2,),) * 9), (("a",), ("y", "x"), ((2, 2),) * 3),
                (tuple("abcdef"), ("x",), ((2,),) * 729), ((), tuple("abcdefg"), ((2,) * 7,)), (("a",), ("x",), (0, 1, 2)), (("a",), ("x",), None),
                (None, ("x",), good[2]), ((1,), ("x",), good[2]), (("a",), ("x",), ((0,), (1,), ())), (("a",), ("x",), ((0,), (1,), (2, 2))),
                (("a",), ("x",), ((0,), (0,), (1,))), (("a",), ("x",), ((0,), (1,), (1,))), (("a",), ("x",), ((2,), (1,), (1,))),
                (("a",), ("x",), ((2,), (2,), (0,)))]:
            self.same(is_behaviour(value), False, value)
            self.refuses(InvalidBehaviour, answer, value, None)
            self.refuses(InvalidBehaviour, output_primes, value, None, None)
            self.refuses(InvalidBehaviour, first_unlike, value, None)
            self.refuses(InvalidBehaviour, first_unlike, good, value)
        for item in (True, False, 3, -1, None, "0", [], (), {}, 10 ** 39):
            for rows in list(replaced(good[2], item)):
                self.same(is_behaviour((("a",), ("x",), rows)), False)
                self.refuses(InvalidBehaviour, behaviour_from, ("a",), ("x",), rows)
        self.same([is_behaviour((tuple("abcde"), tuple("abcdef"), ((2,) * 6,) * 243)), is_behaviour(((), ("x",), ((1,),)))], [True, True])

    def test_rows_that_continue_one_another(self):
        every = all_rows((0, 1, 2), 2)
        dice = random.Random(6)
        found = [0, 0]
        samples = [tuple((dice.choice((0, 1, 2)),) for _ in every) for _ in range(300)]
        samples += [tuple((dice.choice((2, 2, 2, 2, 1)),) for _ in every) for _ in range(300)]
        for rows in samples:
            wanted = all(
                fits(mine, other) for row, mine in zip(every, rows) for more, other in zip(every, rows) if fits(row, more))
            self.same(is_behaviour((("a", "b"), ("x",), rows)), wanted, rows)
            found[wanted] += 1
        self.assertTrue(min(found) > 20)
        for module in some_modules():
            inputs, outputs, rows = behaviour_of(module)
            every = all_rows((0, 1, 2), len(inputs))
            for _ in range(4):
                at = dice.randrange(len(rows))
                place = dice.randrange(len(outputs))
                value = dice.choice((0, 1, 2))
                changed = rows[at][:place] + (value,) + rows[at][place + 1:]
                other = rows[:at] + (changed,) + rows[at + 1:]
                wanted = all(fits(other[k], changed) for k, row in enumerate(every) if fits(row, every[at])) and all(
                    fits(changed, other[k]) for k, row in enumerate(every) if fits(every[at], row))
                self.same(is_behaviour((inputs, outputs, other)), wanted)

    def test_rows_of_answers(self):
        for value in odd_values():
            if not (isinstance(value, tuple) and len(value) == 3 and all(type(item) is int and 0 <= item <= 2 for item in value)):
                self.refuses(InvalidRow, answer, CHOICE, value)
        self.refuses(InvalidRow, answer, CHOICE, (0, 1))
        self.refuses(InvalidRow, answer, CHOICE, (0, 1, True))
        self.refuses(InvalidRow, answer, CHOICE, [0, 1, 2])

    def test_thousands_of_answers(self):
        for k in range(2000):
            self.assertEqual(answer(CHOICE, (0, k & 1, 2)), (k & 1,))


class ByCalls(Case):
    def test_calls_in_their_order(self):
        for inputs, outputs in (((), ("x",)), (("a",), ("x", "y")), (("a", "b", "c"), ("x",))):
            asked = []

            def call(row):
                asked.append(row)
                return tuple(min(row, default=1) if 2 not in row else 2 for _ in outputs)

            made = behaviour_by(inputs, outputs, call)
            self.same(asked, all_rows((0, 1, 2), len(inputs)))
            self.same(made, (inputs, outputs, tuple(call(row) for row in all_rows((0, 1, 2), len(inputs)))))

    def test_calls_that_raise(self):
        asked = []

        def call(row):
            asked.append(row)
            if len(asked) == 4:
                raise KeyError("mine")
            return None

        self.refuses(KeyError, behaviour_by, ("a", "b"), ("x",), call)
        self.same(len(asked), 4)

    def test_ports_before_all_calls_and_answers_behind_them(self):
        asked = []

        def call(row):
            asked.append(row)
            return (0,) if row == (0,) else (1,) if row == (1,) else (0,)

        for inputs, outputs in (
                (("a", "b", "c", "d", "e", "f"), ("x",)), (("b", "a"), ("x",)), (["a"], ("x",)), (("a",), ()), (("a",), ("x", "x")), (("a",), None),
                (None, ("x",)), (("A",), ("x",)), (("a",), tuple("abcdefg")), ("a", "x")):
            self.refuses(InvalidBehaviour, behaviour_by, inputs, outputs, call)
            self.refuses(InvalidBehaviour, behaviour_from, inputs, outputs, ())
        self.same(asked, [])
        self.refuses(InvalidBehaviour, behaviour_by, ("a",), ("x",), call)
        self.same(asked, [(0,), (1,), (2,)])
        for value in odd_values():
            if repr(value) not in ("(0,)", "(1,)", "(2,)"):
                self.refuses(InvalidBehaviour, behaviour_by, ("a",), ("x",), lambda row: value)


class Primes(Case):
    def test_against_the_definition(self):
        for module in some_modules():
            behaviour = behaviour_of(module)
            rows = all_rows((0, 1, 2), len(behaviour[0]))
            for place, output in enumerate(behaviour[1]):
                for bit in (0, 1):
                    having = [row for row, found in zip(rows, behaviour[2]) if found[place] == bit]
                    wanted = [row for row in having if not any(less != row and fits(less, row) for less in having)]
                    self.same(output_primes(behaviour, output, bit), tuple(wanted))

    def test_all_primes_determine_the_behaviour(self):
        for module in some_modules():
            behaviour = behaviour_of(module)
            primes = {
                output: (output_primes(behaviour, output, 0), output_primes(behaviour, output, 1)) for output in behaviour[1][::-1]}
            self.same(self.pure(behaviour_of_primes, behaviour[0], primes), behaviour)
            more = {
                output: (rows[0][::-1] + rows[0], rows[1] + tuple(
                    row for row, found in zip(all_rows((0, 1, 2), len(behaviour[0])), behaviour[2])
                    if found[behaviour[1].index(output)] == 1))
                for output, rows in primes.items()}
            self.same(behaviour_of_primes(behaviour[0], more), behaviour)

    def test_few_rows(self):
        self.same(behaviour_of_primes(("a",), {"x": ((), ((1,),))}), behaviour_of(KEEP))
        self.same(behaviour_of_primes((), {"y": (((),), ()), "x": ((), ((),)), "z": ((), ())}), ((), ("x", "y", "z"), ((1, 0, 2),)))
        self.same(behaviour_of_primes(("a",), {"x": (((2,),), ())}), (("a",), ("x",), ((0,), (0,), (0,))))

    def test_wrong_primes(self):
        for primes in [value for value in odd_values() if value != {}] + [
                {}, {"x": ()}, {"x": ((),)}, {"x": [(), ()]}, {"x": ([], ())}, {"x": ((), [])}, {"x": ((), (), ())}, {"x": (((0,),), ((2,),))},
                {"x": (((0,),), ((0,),))}, {"x": (((2,),), ((2,),))}, {"x": (((0, 1),), ())}, {"x": (((),), ())}, {"x": (((True,),), ())},
                {"x": (((3,),), ())}, {"x": (([0],), ())}, {"x": ((0,), ())}, {"X": ((), ())}, {1: ((), ())}, {None: ((), ()), "x": ((), ())},
                {port: ((), ()) for port in "abcdefg"}, {"x": ((), ()), "y": None}, {("x",): ((), ())}]:
            self.refuses(InvalidBehaviour, behaviour_of_primes, ("a",), primes)
        for inputs in (["a"], ("A",), ("b", "a"), tuple("abcdef"), None, "a", 1, ("a", "a"), {"a": 1}):
            self.refuses(InvalidBehaviour, behaviour_of_primes, inputs, {"x": ((), ())})
        self.same(len(behaviour_of_primes(tuple("abcde"), {port: ((), ()) for port in "abcdef"})[2]), 243)
        self.refuses(InvalidBehaviour, behaviour_of_primes, ("a", "b"), {"x": (((0, 2),), ((2, 1),))})
        self.same(behaviour_of_primes(("a", "b"), {"x": (((0, 2),), ((1, 1),))})[2][:3], ((0,), (0,), (0,)))

    def test_errors_of_output_primes(self):
        for value in odd_values() + ["a", ("out",)]:
            self.same(self.refuses(UnknownName, output_primes, CHOICE, value, 5).name, value)
            if not (type(value) is int and value in (0, 1)):
                self.same(self.refuses(InvalidNumber, output_primes, CHOICE, "out", value).value, value)


class Unlike(Case):
    def test_first_unlike_rows(self):
        ever = behaviour_of(make_module(make_circuit("a", out=("one",)), out="out"))
        self.same([first_unlike(behaviour_of(LATE), ever), first_unlike(ever, behaviour_of(LATE)), first_unlike(ever, ever)], [(2,), (2,), None])
        for seed in range(60):
            one, other = [behaviour_of(module_from(random_circuit(k, 3, 3, 2), {"p": "aaa", "q": "aab"})) for k in (seed, seed + 500)]
            unlike = [row for row in all_rows((0, 1, 2), 3) if answer(one, row) != answer(other, row)]
            self.same(first_unlike(one, other), unlike[0] if unlike else None)
            self.same(first_unlike(one, one), None)

    def test_other_ports(self):
        one = (("a",), ("x",), ((0,), (1,), (2,)))
        for other in ((("b",), ("x",), one[2]), (("a",), ("y",), one[2]), ((), ("x",), ((2,),)), (("a",), ("x", "y"), ((2, 2),) * 3)):
            self.refuses(InvalidOperation, first_unlike, one, other)
            self.refuses(InvalidOperation, first_unlike, other, one)
        self.refuses(InvalidBehaviour, first_unlike, one, None)
        self.refuses(InvalidBehaviour, first_unlike, KEEP, one)

    def test_arguments_stay(self):
        for module in some_modules()[:12] + [make_module(OSC, x="x"), module_from(MIXED, {"e": "e", "h": "h"})]:
            behaviour = self.pure(behaviour_of, module)
            self.pure(first_unlike, behaviour, behaviour)
            self.pure(is_behaviour, behaviour)
            self.pure(output_primes, behaviour, behaviour[1][0], 0)
            self.pure(answer, behaviour, (2,) * len(behaviour[0]))
        self.same(is_module((circuit_from((), {"x": ("one",)}), (("x", "x"),))), True)


if __name__ == "__main__":
    unittest.main()
