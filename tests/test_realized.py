"""Points 14.1 and 14.2: modules for behaviours."""

import random
import unittest

from loopgates.circuits.circuits import circuit_from, make_circuit
from loopgates.circuits.loops import is_loop_free, loop_gates, parts
from loopgates.errors import InvalidBehaviour, InvalidOperation, TooMany
from loopgates.modules.behaviours import (
    behaviour_by, behaviour_from, behaviour_of, behaviour_of_primes, is_module, make_module, module_from, output_primes)
from loopgates.modules.realized import is_realization, looping_outputs, realized, realized_plain
from tests.samples import Case, LUCKY, OSC, TIE, all_rows, odd_values, replaced
from tests.test_behaviours import CHOICE, KEEP, LATE, PORTS, defined, fits, some_modules


def count_primes(behaviour):
    """Return how many prime rows all outputs have together."""
    return sum(len(output_primes(behaviour, output, bit)) for output in behaviour[1] for bit in (0, 1))


def some_behaviour(seed, most_rows=6):
    """Return a behaviour by chance that is made of rows for 0 and 1 of each output."""
    dice = random.Random(seed)
    inputs = tuple("abcde"[:dice.randint(0, 5)])
    primes = {}
    for port in PORTS[:dice.randint(1, 6)]:
        rows = ([], [])
        for _ in range(dice.randint(0, most_rows)):
            row = tuple(dice.choice((0, 1, 2, 2)) for _ in inputs)
            bit = dice.randint(0, 1)
            if all(any({mine, other} == {0, 1} for mine, other in zip(row, known)) for known in rows[1 - bit]):
                rows[bit].append(row)
        primes[port] = (tuple(rows[0]), tuple(rows[1]))
    return behaviour_of_primes(inputs, primes)


def needing(behaviour):
    """Return the dict of the outputs that need a loop, by the words."""
    inputs, outputs, rows = behaviour
    found = {}
    for place, output in enumerate(outputs):
        for row, answers in zip(all_rows((0, 1, 2), len(inputs)), rows):
            if 2 not in row and answers[place] == 2:
                found.setdefault(output, row)
    return found


def natural(inputs, outputs, functions):
    """Return the behaviour in which each output has the bit that all rows of bits that continue a row give it."""
    def call(row):
        whole = [bits for bits in all_rows((0, 1), len(inputs)) if fits(row, bits)]
        results = [{function(bits) for bits in whole} for function in functions]
        return tuple(found.pop() if len(found) == 1 else 2 for found in results)
    return behaviour_by(inputs, outputs, call)


class Realized(Case):
    def check(self, behaviour):
        """Check all functions at a behaviour, and return how many parts with loops its module has."""
        needs = needing(behaviour)
        self.same(self.pure_dict(looping_outputs, behaviour), needs)
        module = self.pure(realized, behaviour)
        self.same([is_module(module), defined(module), module[0][0]], [True, behaviour, behaviour[0]])
        self.same(is_realization(behaviour, module), True)
        looping = loop_gates(module[0])
        self.same(len([part for part in parts(module[0]) if part[0] in looping]), len(needs))
        if needs:
            self.refuses(InvalidOperation, realized_plain, behaviour)
        else:
            plain = self.pure(realized_plain, behaviour)
            self.same([is_module(plain), is_loop_free(plain[0]), behaviour_of(plain)], [True, True, behaviour])
            self.same(is_realization(behaviour, plain), True)
        return len(needs)

    def test_examples(self):
        self.same(
            [looping_outputs(behaviour_of(KEEP)), is_realization(behaviour_of(KEEP), realized(behaviour_of(KEEP))),
             looping_outputs(behaviour_of(LATE))],
            [{"x": (0,)}, True, {}])

    def test_behaviours_of_modules(self):
        found = {}
        for module in some_modules():
            behaviour = behaviour_of(module)
            if count_primes(behaviour) <= 40:
                many = self.check(behaviour)
                found[many] = found.get(many, 0) + 1
        self.assertTrue(found[0] > 3 and found[1] > 3 and sorted(found)[2:], found)

    def test_behaviours_by_chance(self):
        for seed in range(60):
            behaviour = some_behaviour(seed)
            self.assertLessEqual(count_primes(behaviour), 40)
            self.check(behaviour)

    def test_all_behaviours_with_one_input(self):
        for rows in all_rows((0, 1, 2), 3):
            behaviour = (("a",), ("x",), tuple((value,) for value in rows))
            if rows[2] == 2 or rows[0] == rows[1] == rows[2]:
                self.same(self.check(behaviour), int(2 in rows[:2]))
            else:
                self.refuses(InvalidBehaviour, realized, behaviour)

    def test_two_where_all_rows_of_bits_agree(self):
        self.same([self.check(behaviour_of(LATE)), len(realized(behaviour_of(LATE))[0][1]) < 10], [0, True])
        late = behaviour_by(("a", "b"), ("x", "y"), lambda row: (2 if 2 in row else 1, 2 if 2 in row else row[0] ^ row[1]))
        self.same(self.check(late), 0)
        bent = behaviour_by(("a", "b"), ("x",), lambda row: (1 if row in ((0, 0), (0, 1), (2, 1), (1, 1)) else 0 if row == (1, 0) else 2,))
        self.same(self.check(bent), 0)

    def test_outputs_that_ask_for_no_input(self):
        for inputs in ((), ("a",), tuple("abcde")):
            self.same(self.check(behaviour_by(inputs, ("x", "y", "z"), lambda row: (1, 0, 2))), 1)
            self.same(self.check(behaviour_by(inputs, ("x", "y"), lambda row: (1, 0))), 0)
            self.same(self.check(behaviour_by(inputs, PORTS, lambda row: (2,) * 6)), 6)

    def test_equal_outputs_have_loops_of_their_own(self):
        row_wise = behaviour_by(("a", "b"), PORTS, lambda row: (1 if row == (1, 1) else 2,) * 6)
        self.same(self.check(row_wise), 6)
        self.same(self.check(behaviour_by(("a",), ("x", "y"), lambda row: row + row)), 0)

    def test_names_of_gates_and_of_inputs(self):
        first = realized(CHOICE)
        names = tuple(gate[0] for gate in first[0][1])[:3]
        for inputs in (names, ("aaa", "aab", "aad"), ("a", "out", "x")):
            self.check((inputs, CHOICE[1], CHOICE[2]))
            self.check((inputs, (inputs[1],), CHOICE[2]))

    def test_forty_prime_rows(self):
        inputs = tuple("abcde")
        parity = natural(inputs, ("x",), [lambda bits: sum(bits) % 2])
        self.same(count_primes(parity), 32)
        self.check(parity)
        functions = [lambda bits: sum(bits) % 2, lambda bits: bits[0] & bits[1], lambda bits: bits[2] | bits[3], lambda bits: bits[4]]
        forty = natural(inputs, ("u", "v", "w", "z"), functions)
        self.same(count_primes(forty), 40)
        self.check(forty)
        rows = [row for row in all_rows((0, 1), 5) if sum(row) % 2]
        late = behaviour_of_primes(inputs, {
            "x": ((), tuple(rows)), "y": (tuple(rows), ()), "z": (tuple(rows[:4]), tuple(rows[4:8]))})
        self.same([count_primes(late), self.check(late)], [40, 3])

    def test_more_prime_rows(self):
        for seed in range(12):
            dice = random.Random(seed)
            tables = [{bits: dice.choice((0, 1)) for bits in all_rows((0, 1), 5)} for _ in range(1 + seed % 6)]
            behaviour = natural(tuple("abcde"), PORTS[:len(tables)], [table.get for table in tables])
            for call in (realized, realized_plain):
                try:
                    module = call(behaviour)
                except TooMany as error:
                    self.same([error.limit, count_primes(behaviour) > 40], [200, True])
                else:
                    self.same([is_realization(behaviour, module), is_loop_free(module[0])], [True, True])


class Judged(Case):
    def test_realizations_that_are_not_the_returned_ones(self):
        self.same(is_realization(behaviour_of(KEEP), KEEP), True)
        other = make_module(make_circuit("a", x=("or", "a", "y"), y=("buffer", "x"), z=("not", "z")), x="y")
        self.same(is_realization(behaviour_of(KEEP), other), True)
        for module in some_modules():
            self.same(is_realization(behaviour_of(module), module), True)
        self.same(is_realization((("a",), ("x",), ((0,), (1,), (2,))), make_module(make_circuit("a"), x="a")), True)

    def test_wrong_ones(self):
        behaviour = behaviour_of(KEEP)
        for value in odd_values() + [
                behaviour, TIE, make_module(OSC, x="x"), make_module(TIE, y="x"), make_module(TIE, x="x", y="x"), make_module(TIE, x="a"),
                make_module(make_circuit("b", x=("or", "b", "x")), x="x"), make_module(make_circuit(x=("buffer", "x")), x="x"),
                make_module(make_circuit("a", "b", x=("or", "a", "x")), x="x"), list(KEEP), (list(TIE), KEEP[1]), make_module(LUCKY, x="y")]:
            self.same(is_realization(behaviour, value), False, value)
        for value in list(replaced(KEEP, True)) + list(replaced(KEEP, None)):
            self.same(is_realization(behaviour, value), False)
        self.same([is_realization(behaviour_of(LATE), make_module(make_circuit("a", out=("one",)), out="out"))], [False])

    def test_errors(self):
        for value in odd_values() + [KEEP, LATE, list(CHOICE), CHOICE[:2], (("a",), ("x",), ((0,), (0,), (1,)))]:
            for call in (realized, realized_plain, looping_outputs):
                self.refuses(InvalidBehaviour, call, value)
            self.refuses(InvalidBehaviour, is_realization, value, KEEP)
        big = behaviour_of_primes(tuple("abcde"), {port: (tuple(all_rows((0, 1), 5)[:16]), tuple(all_rows((0, 1), 5)[16:31])) for port in PORTS})
        self.refuses(InvalidOperation, realized_plain, big)

    def test_small_questions_by_the_thousand(self):
        behaviour = behaviour_of(KEEP)
        for _ in range(1000):
            self.assertTrue(is_realization(behaviour, realized(behaviour)))
            self.assertEqual(looping_outputs(behaviour), {"x": (0,)})

    def test_names_of_parameters(self):
        circuit = circuit_from(("row",), {"value": ("not", "row")})
        module = module_from(circuit, {"outputs": "value"})
        self.same(is_realization(behaviour_of(module), realized(behaviour_from(*behaviour_of(module)))), True)


if __name__ == "__main__":
    unittest.main()
