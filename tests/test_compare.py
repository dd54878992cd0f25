"""Points 16.1 and 16.2: machines compared."""

import random
import unittest

from loopgates.circuits.circuits import circuit_from, gate_names, make_circuit, renamed_by
from loopgates.errors import Flipping, InvalidMachine, InvalidOperation
from loopgates.machines.classes import numbered, refined
from loopgates.machines.compare import is_likeness, least_likeness, plain_table, separating_history
from loopgates.machines.machines import is_machine, machine_from, make_machine, outputs_of, tick
from loopgates.machines.reach import is_machine_paper, machine_paper, shortest_flip
from tests.samples import Case, TIE, all_rows, odd_values, random_circuit, replaced
from tests.test_machines import FLIP, SOME, TURN, counter, defined, inputs_of, some_machine
from tests.test_reach import LATE, begun

# The same as TURN, by a register that keeps the other bit.
OTHER = machine_from(make_circuit("e", "t", d=("xor", "e", "t"), q=("not", "t")), {"t": ("d", 1)}, {"q": "q"})


def twice(machine):
    """Return a machine that keeps its registers twice, and has one that stands idle."""
    circuit, registers, outputs = machine
    news = {name: name + "z" for name in [*circuit[0], *gate_names(circuit)]}
    for name in inputs_of(machine):
        news[name] = name
    other = renamed_by(circuit, news)
    inputs = tuple(sorted({*circuit[0], *other[0], "idle"}))
    both = (inputs, tuple(sorted(circuit[1] + other[1])))
    kept = {name: (source, bit) for name, source, bit in registers}
    kept.update({news[name]: (news[source], bit) for name, source, bit in registers})
    return machine_from(both, {**kept, "idle": ("idle", 1)}, {port: news[name] for port, name in outputs})


def settling(many, seeds):
    """Return a dict from inputs to machines that settle, found by chance."""
    found = {}
    for seed in seeds:
        dice = random.Random(seed)
        own = dice.randint(0, 3)
        circuit = random_circuit(seed, many + own, dice.randint(2, 7), 3)
        names = [*circuit[0], *gate_names(circuit)]
        machine = machine_from(
            circuit, {name: (dice.choice(names), dice.randint(0, 1)) for name in circuit[0][:own]}, {"q": dice.choice(names)})
        if machine_paper(machine)[0] == "settles":
            found.setdefault(inputs_of(machine), []).append(machine)
    return found


def parted(first, second):
    """Return the first separating history, by going through all pairs of states that are reached together."""
    rows = all_rows((0, 1), len(inputs_of(first)))
    layer, seen = [((), begun(first), begun(second))], {(begun(first), begun(second))}
    while layer:
        further = []
        for history, mine, its in layer:
            for row in rows:
                left, right = defined(first, mine, row), defined(second, its, row)
                if left[0] != right[0]:
                    return history + (row,), None
                if (left[1], right[1]) not in seen:
                    seen.add((left[1], right[1]))
                    further.append((history + (row,), left[1], right[1]))
        layer = further
    return None, tuple(sorted(seen))


def tabled(machine):
    """Return the plain table by the words: classes are told apart by histories of growing length."""
    rows = all_rows((0, 1), len(inputs_of(machine)))
    order, moves = [begun(machine)], {}
    while len(moves) < len(order):
        state = order[len(moves)]
        moves[state] = [defined(machine, state, row) for row in rows]
        order.extend(after for _, after in dict.fromkeys(moves[state]) if after not in order)
        order = list(dict.fromkeys(order))
    classes = {state: 0 for state in order}
    while True:
        signs = {state: (classes[state], tuple((shown, classes[after]) for shown, after in moves[state])) for state in order}
        numbers = {}
        further = {state: numbers.setdefault(signs[state], len(numbers)) for state in order}
        if len(set(further.values())) == len(set(classes.values())):
            break
        classes = further
    numbers = {}
    place = {state: numbers.setdefault(further[state], len(numbers)) for state in order}
    table = {}
    for state in order:
        table.setdefault(place[state], tuple((shown, place[after]) for shown, after in moves[state]))
    return tuple(table[k] for k in range(len(table)))


class Separating(Case):
    def check(self, first, second):
        """Check all functions at two machines, and return the separating history."""
        history, pairs = parted(first, second)
        self.same(self.pure(separating_history, first, second), history)
        self.same(self.pure(least_likeness, first, second), pairs)
        self.same(plain_table(first) == plain_table(second), history is None)
        if history is None:
            self.same(is_likeness(first, second, pairs), True)
            self.same(is_likeness(second, first, tuple(sorted(pair[::-1] for pair in pairs))), True)
        else:
            self.assertNotEqual(outputs_of(first, history)[-1], outputs_of(second, history)[-1])
            self.same(outputs_of(first, history)[:-1], outputs_of(second, history)[:-1])
        return history

    def test_by_chance(self):
        found = {}
        for many in (0, 1, 2):
            for machines in settling(many, range(many * 1000, many * 1000 + 260)).values():
                dice = random.Random(many)
                for _ in range(120):
                    first, second = dice.choice(machines), dice.choice(machines)
                    history = self.check(first, second)
                    self.same(separating_history(second, first), history)
                    length = 0 if history is None else len(history)
                    found[length] = found.get(length, 0) + 1
        self.assertTrue(found[0] > 20 and found[1] > 20 and found[2] > 20 and max(found) > 2, found)

    def test_the_same_under_other_names(self):
        for machine in (TURN, counter(1), counter(3)):
            circuit, registers, outputs = machine
            news = {name: name + "x" for name in circuit[0] + gate_names(circuit) if name not in inputs_of(machine)}
            other = machine_from(renamed_by(circuit, news), {
                news[name]: (news.get(source, source), bit) for name, source, bit in registers}, {
                port: news.get(name, name) for port, name in outputs})
            self.same(self.check(machine, other), None)
            self.same(self.check(machine, twice(machine)), None)
            self.same(self.check(twice(machine), machine), None)
        self.same([self.check(TURN, OTHER), least_likeness(TURN, OTHER)], [None, (((0,), (1,)), ((1,), (0,)))])

    def test_counters(self):
        for few, many in ((1, 2), (2, 3), (3, 5)):
            length = 2 ** few
            self.same(self.check(counter(few), counter(many)), ((1,),) * (length - 1) + ((0,),))
            self.same(self.check(counter(many), counter(few)), ((1,),) * (length - 1) + ((0,),))
        self.same(self.check(counter(3, told="a"), counter(1)), None)
        self.same(separating_history(counter(10), counter(11)), ((1,),) * 1023 + ((0,),))
        self.same(separating_history(counter(11), counter(11)), None)
        self.same(len(least_likeness(counter(11), counter(11))), 2048)
        self.same(len(least_likeness(counter(1), counter(11, told="a"))), 2048)

    def test_by_length_and_then_ascending(self):
        circuit = make_circuit("a", "b", "r", k=("buffer", "a"), q=("or", "b", "r"))
        first = make_machine(circuit, {"r": ("k", 0)}, q="q")
        second = make_machine(make_circuit("a", "b", "r", q=("buffer", "b")), {"r": ("a", 0)}, q="q")
        self.same(self.check(first, second), ((1, 0), (0, 0)))
        third = make_machine(make_circuit("a", "b", q=("nor", "a", "b")), {}, q="q")
        self.same(self.check(first, third), ((0, 0),))

    def test_histories_with_unlike_rows(self):
        circuit = make_circuit("z", "a", "b", "c", k=("not", "a"), m=("and", "k", "b", "c", "z"), n=("zero",))
        found = machine_from(circuit, {"a": ("z", 0), "b": ("a", 0), "c": ("b", 0)}, {"q": "m"})
        never = machine_from(circuit, {"a": ("z", 0), "b": ("a", 0), "c": ("b", 0)}, {"q": "n"})
        self.same(self.check(found, never), ((1,), (1,), (0,), (1,)))
        self.same(self.check(never, found), ((1,), (1,), (0,), (1,)))

    def test_few_parts(self):
        one = make_machine(make_circuit(x=("one",)), {}, q="x")
        still = make_machine(make_circuit("r"), {"r": ("r", 1)}, q="r")
        zero = make_machine(make_circuit("r", "s", x=("nand", "r", "s")), {"r": ("x", 1), "s": ("s", 1)}, q="r")
        self.same([self.check(one, still), least_likeness(one, still)], [None, (((), (1,)),)])
        self.same([self.check(still, zero), plain_table(zero)], [((), ()), ((((1,), 1),), (((0,), 0),))])
        self.same(is_likeness(one, still, (((), (1,)),)), True)


class Likenesses(Case):
    def test_greater_ones(self):
        copy = twice(TURN)
        least = least_likeness(TURN, copy)
        self.same([name for name, _, _ in copy[1]], ["idle", "s", "sz"])
        self.same(least, (((0,), (1, 0, 0)), ((1,), (1, 1, 1))))
        # What is told is the second one of the equal registers, so states that are never reached are alike, too.
        other = tuple(((sz,), (idle, s, sz)) for sz in (0, 1) for idle in (0, 1) for s in (0, 1))
        self.same(is_likeness(TURN, copy, tuple(sorted(other))), True)
        self.same(is_likeness(TURN, copy, tuple(sorted(least + (((0,), (0, 1, 0)), ((1,), (0, 0, 1)))))), True)
        self.same(is_likeness(TURN, copy, tuple(sorted(least + (((0,), (0, 1, 0)),)))), False)
        self.same(is_likeness(TURN, copy, tuple(sorted(least + (((0,), (0, 0, 1)), ((1,), (0, 1, 0)))))), False)

    def test_bent_ones(self):
        least = least_likeness(TURN, OTHER)
        for value in odd_values() + [
                least[:1], least[1:], least[::-1], least + least, list(least), (list(least[0]), least[1]), tuple(pair[::-1] for pair in least),
                (((0,), (0,)), *least), least + (((1,), (1,)),), (((0,), [1]), least[1]), (((0,), (1,), ()), least[1]), (((0, 0), (1,)), least[1]),
                (((0,),), least[1]), ((0, 1), least[1]), (least,), (((0,), ()),), least + (None,), (None,) + least]:
            self.same(is_likeness(TURN, OTHER, value), False, value)
        for item in (True, False, None, 2, "0", -1):
            for value in replaced(least, item):
                self.same(is_likeness(TURN, OTHER, value), False, value)

    def test_states_at_which_a_machine_flips(self):
        circuit = make_circuit("r", "z", k=("and", "r", "z"), x=("nand", "r", "x"))
        never = make_machine(circuit, {"r": ("k", 0)}, q="x")
        one = make_machine(make_circuit("z", x=("one",)), {}, q="x")
        self.same([separating_history(never, one), least_likeness(never, one), plain_table(never)], [
            None, (((0,), ()),), ((((1,), 0), ((1,), 0)),)])
        self.same([is_likeness(never, one, (((0,), ()),)), is_likeness(never, one, (((0,), ()), ((1,), ())))], [True, False])
        self.same([is_likeness(one, never, (((), (0,)),)), is_likeness(one, never, (((), (0,)), ((), (1,))))], [True, False])

    def test_by_chance(self):
        found = [0, 0]
        for machines in settling(1, range(200)).values():
            dice = random.Random(7)
            for _ in range(250):
                first, second = dice.choice(machines), dice.choice(machines)
                every = [(mine, its) for mine in all_rows((0, 1), len(first[1])) for its in all_rows((0, 1), len(second[1]))]
                value = dice.sample(every, dice.randint(1, len(every)))
                value = tuple(sorted({*value, *(least_likeness(first, second) or ())}))
                wanted = (begun(first), begun(second)) in value
                for mine, its in value:
                    for row in ((0,), (1,)):
                        left, right = tick(first, mine, row), tick(second, its, row)
                        wanted = wanted and None not in (left, right) and left[0] == right[0] and (left[1], right[1]) in value
                self.same(is_likeness(first, second, value), wanted)
                found[wanted] += 1
        self.assertTrue(min(found) > 5, found)


class Tables(Case):
    def test_example(self):
        self.same(plain_table(TURN), ((((0,), 0), ((0,), 1)), (((1,), 1), ((1,), 0))))
        self.same(plain_table(OTHER), plain_table(TURN))

    def test_against_the_words(self):
        for many in (0, 1, 2):
            for machines in settling(many, range(many * 500, many * 500 + 120)).values():
                for machine in machines:
                    self.same(self.pure(plain_table, machine), tabled(machine))
        for many in (1, 2, 4):
            self.same(plain_table(counter(many)), tabled(counter(many)))
            self.same(plain_table(counter(many, told="a")), tabled(counter(1)))

    def test_numbers_by_the_first_histories(self):
        table = plain_table(counter(3))
        self.same([row[0][1] for row in table], list(range(8)))
        self.same([row[1][1] for row in table], [1, 2, 3, 4, 5, 6, 7, 0])
        self.same([row[0][0] for row in table], [(0,)] * 7 + [(1,)])
        self.same(len(plain_table(counter(11))), 2048)

    def test_classes_that_are_refined(self):
        # The last ones are some at which it matters which half of a class is looked at again.
        for seed in [*range(60), 81, 331, 487, 639, 677, 711, 919, 1146, 1367, 1470]:
            dice = random.Random(seed)
            many = dice.randint(1, 30)
            kinds = [dice.randint(0, dice.randint(0, 2)) for _ in range(many)]
            following = [[dice.randrange(many) for _ in range(many)] for _ in range(dice.randint(1, 3))]
            classes = kinds
            for _ in range(many):
                classes = numbered([(mine, *[classes[leads[at]] for leads in following]) for at, mine in enumerate(classes)])
            self.same(numbered(refined(kinds, following)), numbered(classes))


class Errors(Case):
    CALLS = (separating_history, least_likeness, lambda first, second: is_likeness(first, second, None))

    def test_order(self):
        for call in self.CALLS:
            for value in odd_values() + [TIE, list(TURN), TURN[:2]]:
                self.refuses(InvalidMachine, call, value, FLIP)
                self.refuses(InvalidMachine, call, TURN, value)
                self.refuses(InvalidMachine, call, FLIP, value)
            for other in (counter(1), make_machine(TURN[0], {"s": ("n", 0)}, p="s"), make_machine(TURN[0], {"s": ("n", 0)}, q="s", r="s"),
                          make_machine(TURN[0], {}, q="s"), FLIP, SOME):
                self.refuses(InvalidOperation, call, TURN, other)
                self.refuses(InvalidOperation, call, other, TURN)
        self.refuses(InvalidOperation, separating_history, FLIP, SOME)
        for value in odd_values():
            self.refuses(InvalidMachine, plain_table, value)

    def test_machines_that_flip(self):
        good = make_machine(make_circuit("z", x=("one",)), {}, q="x")
        other = make_machine(make_circuit("z", x=("or", "z", "x")), {}, q="x")
        for call in self.CALLS:
            for first, second, wrong in ((LATE, good, LATE), (good, LATE, LATE), (LATE, other, LATE), (other, LATE, other), (other, good, other)):
                paper = self.refuses(Flipping, call, first, second).paper
                self.same([paper[:2], is_machine_paper(wrong, paper)], [("flips", shortest_flip(wrong)), True])
        for machine in (LATE, other, FLIP, SOME):
            paper = self.refuses(Flipping, plain_table, machine).paper
            self.same([paper[:2], is_machine_paper(machine, paper)], [("flips", shortest_flip(machine)), True])

    def test_small_questions_by_the_thousand(self):
        for _ in range(600):
            self.assertEqual(separating_history(TURN, OTHER), None)
            self.assertEqual(len(plain_table(TURN)), 2)
        self.same([is_machine(OTHER), is_machine(twice(counter(2))), len(some_machine(1))], [True, True, 3])
        circuit = circuit_from(tuple("abcdefghijkl"), {"x": ("xor", "a", "l")})
        self.same(len(plain_table(make_machine(circuit, {}, q="x"))[0]), 4096)


if __name__ == "__main__":
    unittest.main()
