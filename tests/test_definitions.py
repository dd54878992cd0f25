"""Functions that are called very often: their answers are those of the definitions, at all small and at great values."""

import random
import unittest

from loopgates.base.names import continues, is_bit, is_name, is_row
from loopgates.base.tables import (
    fixed, is_table, joined, negated, prime_rows, table_word, used_wires, value_at, wires_of, word_table)
from loopgates.circuits.circuits import circuit_from, gate_names, is_circuit, make_circuit
from loopgates.circuits.loops import is_loop_free, is_loop_of, levels, loop_gates, parts, shortest_loop
from loopgates.errors import InvalidCircuit, InvalidRow, InvalidSetting, InvalidState, InvalidTable, UnknownName
from loopgates.runs.states import excited, is_state, plain_state, state_from, stepped
from loopgates.settling.causes import is_steady, steady_values
from loopgates.settling.known import derived_rounds, known_value, known_values, ranks, settles_all
from tests import oracle
from tests.samples import (
    CROSS, Case, LUCKY, MIXED, OSC, TIE, all_rows, chain, greatest, odd_values, random_circuit, replaced, ring, settings_of,
    small_circuits, wide, word_like)

WRONG = (True, False, 2, -1, 3, 10 ** 39, -(10 ** 39), None, "0", "1", "", "a", (), (0,), [], [0], {}, {0: 1}, {"a": 0})
# What is wrong in the place of a value, so without 2.
NO_VALUES = tuple(item for item in WRONG if item != 2 or item is True)
TABLES = [table for wires in range(4) for table in all_rows((0, 1), 2 ** wires)]


class EachItem(Case):
    """An item that is no bit, or no value, is seen wherever it stands."""

    def test_tables(self):
        for wires in range(5):
            for table in ((0,) * 2 ** wires, (1,) * 2 ** wires, ((0, 1) * 8)[:2 ** wires]):
                self.same(is_table(table), True)
                for item in WRONG:
                    for value in replaced(table, item):
                        self.same(is_table(value), False, value)
                        self.refuses(InvalidTable, wires_of, value)
                        self.refuses(InvalidTable, value_at, value, (0,) * wires)
                        self.refuses(InvalidTable, used_wires, value)
                        self.refuses(InvalidTable, prime_rows, value, 1)
                        self.refuses(InvalidTable, table_word, value)
                        self.refuses(InvalidTable, fixed, value, 0, 0)
                        self.refuses(InvalidTable, joined, value, 0, 1)
                        self.refuses(InvalidTable, negated, value)

    def test_rows(self):
        for length in range(1, 5):
            for row in ((0,) * length, (1,) * length, (2,) * length, ((0, 1, 2, 0) * 2)[:length]):
                self.same(is_row(row), True)
                for item in NO_VALUES:
                    for value in replaced(row, item):
                        self.same(is_row(value), False, value)
                        self.same(continues(row, value), False, (row, value))
                        self.same(continues((2,) * length, value), False, value)
                        self.refuses(InvalidRow, continues, value, row)
                        self.refuses(InvalidRow, continues, value, value)
                        self.refuses(InvalidRow, continues, value, None)
                        self.refuses(InvalidRow, value_at, (0,) * 2 ** length, value)

    def test_true_and_false_are_equal_to_bits_but_none(self):
        for bit, twin in ((0, False), (1, True)):
            self.same([is_bit(bit), is_bit(twin), is_row((twin,)), is_table((twin,))], [True, False, False, False])
            self.same([continues((bit,), (bit,)), continues((bit,), (twin,)), continues((2,), (twin,))], [True, False, False])
            self.refuses(InvalidRow, continues, (twin,), (bit,))
            self.refuses(InvalidRow, continues, (twin,), (twin,))
            self.refuses(InvalidRow, continues, (twin, 0), (bit,))

    def test_bits_of_circuits(self):
        for circuit in (TIE, OSC, CROSS, LUCKY, MIXED, wide(5)):
            self.same(is_circuit(circuit), True)
            for item in WRONG:
                for value in replaced(circuit, item):
                    self.same(is_circuit(value), False, value)
                    self.refuses(InvalidCircuit, known_values, value, {"a": 0})
                    self.refuses(InvalidCircuit, parts, value)
        for circuit in (chain(200), ring(200), wide(200)):
            for value in list(replaced(circuit, True))[::97] + list(replaced(circuit, False))[::89]:
                self.same(is_circuit(value), False)
                self.refuses(InvalidCircuit, loop_gates, value)

    def test_names_of_circuits(self):
        signs = "AZ09_ `{\u00e9\u00aa\u0430\n"
        for place in range(8):
            for sign in signs:
                name = "abcdefgh"[:place] + sign + "abcdefgh"[place + 1:]
                self.same(is_name(name), False, name)
                self.same(is_name(name[:place + 1]), False, name)
                self.same(is_circuit(((name,), ())), False, name)
                self.same(is_circuit(((), ((name, (), (0,)),))), False, name)
                self.same(is_circuit((("a", name), ())), False, name)
        names = [word_like(k) for k in range(200)]
        for at in (0, 1, 57, 198, 199):
            for other in ("", "aAa", "aaaaaaaaa", names[at - 1], names[at - 1][:2] + "1", "\u00e9", 1, None, ["a"], True):
                gates = [(name, (), (1,)) for name in names]
                gates[at] = (other, (), (1,))
                self.same(is_circuit(((), tuple(gates))), False, other)
        for at in (0, 1, 57, 198, 199):
            for source in ("", "aAa", "zzz", "b", 1, None, ["a"], True, ("a",)):
                gates = [(name, ("a",), (1, 0)) for name in names]
                gates[at] = (names[at], (source,), (1, 0))
                self.same(is_circuit((("a",), tuple(gates))), False, source)

    def test_settings_and_states(self):
        state = plain_state(CROSS)
        for name in ("a", "c"):
            for item in WRONG:
                setting = {"a": 0, "c": 1, name: item}
                self.refuses(InvalidSetting, excited, CROSS, setting, state)
                self.refuses(InvalidSetting, stepped, CROSS, setting, state, ("q", 0))
                if item not in (2,):
                    self.refuses(InvalidSetting, known_values, CROSS, setting)
                    self.refuses(InvalidSetting, known_value, CROSS, setting, "p")
                    self.refuses(InvalidSetting, is_steady, CROSS, setting, None)
        for item in WRONG:
            for value in replaced(state, item):
                self.same(is_state(CROSS, value), False, value)
                self.refuses(InvalidState, excited, CROSS, {"a": 0, "c": 1}, value)
                self.refuses(InvalidState, stepped, CROSS, {"a": 0, "c": 1}, value, ("q", 0))
            for name in "pqu":
                if item is not True and item is not False and item == 2:
                    continue
                self.same(is_steady(CROSS, {"a": 0, "c": 1}, {**known_values(CROSS, {"a": 0, "c": 1}), name: item}), False)

    def test_gates_that_are_none(self):
        for value in odd_values() + ["pp", "P", "a", "c"]:
            self.same(self.refuses(UnknownName, known_value, CROSS, {"a": 0, "c": 1}, value).name, value)
            self.same(self.refuses(UnknownName, shortest_loop, CROSS, value).name, value)
            self.same(self.refuses(UnknownName, is_loop_of, CROSS, value, None).name, value)


class AllTables(Case):
    def test_what_is_a_table(self):
        for length in range(0, 34):
            self.same(is_table((0,) * length), length in (1, 2, 4, 8, 16))
            self.same(is_table([0] * length), False)

    def test_made_tables(self):
        words = [word_table(word, wires=wires) for word, wires in (
            ("and", 3), ("or", 4), ("xor", 4), ("nand", 2), ("nor", 3), ("same", 4), ("not", 1), ("zero", 0), ("choose", 3))]
        for table in TABLES + words:
            wires = wires_of(table)
            for wire in range(wires):
                unlike = [
                    bits for bits in all_rows((0, 1), wires)
                    if oracle.result(table, bits) != oracle.result(table, bits[:wire] + (1 - bits[wire],) + bits[wire + 1:])]
                self.same(wire in used_wires(table), bool(unlike), (table, wire))
                for bit in (0, 1):
                    held = fixed(table, wire, bit)
                    for bits in all_rows((0, 1), wires - 1):
                        self.assertEqual(oracle.result(held, bits), oracle.result(table, bits[:wire] + (bit,) + bits[wire:]))
                    self.same(len(held), len(table) // 2)
            self.same(negated(negated(table)), table)

    def test_prime_rows_force_and_no_fewer_bits_do(self):
        for table in TABLES:
            rows = all_rows((0, 1, 2), wires_of(table))
            forced = {row: oracle.forced(table, row) for row in rows}
            for row in rows:
                self.same(value_at(table, row), forced[row], (table, row))
            for bit in (0, 1):
                wanted = []
                for row in rows:
                    less = [row[:k] + (2,) + row[k + 1:] for k in range(len(row)) if row[k] != 2]
                    if forced[row] == bit and all(forced[other] != bit for other in less):
                        wanted.append(row)
                self.same(prime_rows(table, bit), tuple(wanted), (table, bit))

    def test_words(self):
        for table in TABLES:
            word = table_word(table)
            if word is not None:
                self.same(word_table(word, wires=wires_of(table)), table)
        self.same(len([table for table in TABLES if table_word(table)]), 17)


class GreatCircuits(Case):
    def test_parts_and_loops(self):
        turned = chain(200, backwards=True)
        for circuit in (chain(200), turned, ring(200), wide(200), wide(200, closed=False), greatest()):
            self.same(is_circuit(circuit), True)
            reached = oracle.read_by(circuit)
            looping = tuple(name for name in gate_names(circuit) if name in reached[name])
            self.same(parts(circuit), oracle.part_list(circuit))
            self.same(loop_gates(circuit), looping)
            self.same(is_loop_free(circuit), not looping)
        names = gate_names(chain(200))
        self.same(levels(chain(200)), {name: k + 1 for k, name in enumerate(names)})
        self.same(levels(turned), {name: 200 - k for k, name in enumerate(names)})
        self.same(levels(wide(200, closed=False)), {name: 200 - k for k, name in enumerate(names)})

    def test_shortest_loops(self):
        for circuit, length in ((ring(200), 200), (wide(200), 50), (wide(199), 50), (ring(1), 1), (wide(3), 1)):
            for gate in gate_names(circuit)[::23]:
                found = shortest_loop(circuit, gate)
                self.same([len(found), is_loop_of(circuit, gate, found)], [length, True])
        self.same([shortest_loop(chain(200), name) for name in gate_names(chain(200))[::40]], [None] * 5)
        for seed in range(40):
            circuit = random_circuit(seed, 2, 14, 3)
            sources = {name: set(read) for name, read, _ in circuit[1]}
            for gate in sources:
                reached, length = {gate}, 0
                steps = 0
                while reached and not length:
                    steps += 1
                    reached = {source for name in reached for source in sources[name] if source in sources}
                    length = steps if gate in reached else 0
                    if steps > 14:
                        break
                found = shortest_loop(circuit, gate)
                self.same(len(found) if found else 0, length, (circuit, gate))
                self.assertTrue(found is None or is_loop_of(circuit, gate, found))

    def test_known_values(self):
        for circuit in (chain(200), chain(200, backwards=True), wide(200, "and", closed=False), wide(200, closed=False), wide(200)):
            for value in (0, 1, 2):
                setting = {"a": value}
                found = known_values(circuit, setting)
                wanted = self.solved(circuit, setting)
                self.same(found, wanted)
                self.same(settles_all(circuit, setting), 2 not in wanted.values())
                order = ranks(circuit, setting)
                self.same(list(order), [name for name in wanted if wanted[name] != 2])
                rounds = list(derived_rounds(circuit, setting))
                self.same({name: at + 1 for at, found in enumerate(rounds) for name in found}, {
                    name: order[name] for at in range(len(rounds)) for name in order if order[name] == at + 1})
        names = gate_names(chain(200))
        self.same(ranks(chain(200), {"a": 1}), {name: k + 1 for k, name in enumerate(names)})
        self.same(ranks(wide(200, "and", closed=False), {"a": 1}), {name: 200 - k for k, name in enumerate(names)})
        self.same(sorted(set(ranks(wide(200, "and", closed=False), {"a": 0}).values())), [k + 1 for k in range(50)])

    def test_known_values_in_any_order_of_names(self):
        dice = random.Random(4)
        for many in (9, 30, 120):
            for seed in range(4):
                order = list(range(many))
                dice.shuffle(order)
                names = [word_like(k) for k in order]
                made = {name: ("not", names[k - 1] if k else "a") for k, name in enumerate(names)}
                circuit = circuit_from(("a",), made)
                self.same(known_values(circuit, {"a": 0}), {name: 1 - order.index(k) % 2 for k, name in enumerate(gate_names(circuit))})
                self.same(ranks(circuit, {"a": 0}), {name: order.index(k) + 1 for k, name in enumerate(gate_names(circuit))})

    def solved(self, circuit, setting):
        """Return the known values, worked out from the definition, with the table of all rows for each table of a gate."""
        values = {**setting, **{name: 2 for name in gate_names(circuit)}}
        forced = {
            (table, row): oracle.forced(table, row)
            for table in {gate[2] for gate in circuit[1]} for row in all_rows((0, 1, 2), len(table).bit_length() - 1)}
        while True:
            after = {name: forced[table, tuple(values[source] for source in sources)] for name, sources, table in circuit[1]}
            if all(values[name] == after[name] for name in after):
                return after
            values.update(after)

    def test_excited_nodes_and_steps(self):
        for circuit in (ring(200), wide(200), chain(200)):
            setting = {name: 1 for name in circuit[0]}
            dice = random.Random(9)
            bits = {(name, k): dice.randint(0, 1) for name, read, _ in circuit[1] for k in range(-1, len(read))}
            state = state_from(circuit, bits)
            wishes = {}
            for name, sources, table in circuit[1]:
                wishes[name, -1] = oracle.result(table, [bits[name, k] for k in range(len(sources))])
                wishes.update({(name, k): setting.get(source, bits.get((source, -1))) for k, source in enumerate(sources)})
            uneasy = tuple(sorted(node for node in bits if bits[node] != wishes[node]))
            self.same(excited(circuit, setting, state), uneasy)
            movers = uneasy[::3]
            after = {node: wishes[node] if node in movers else bits[node] for node in bits}
            self.same(stepped(circuit, setting, state, *movers[::-1]), state_from(circuit, after))


class EightGates(Case):
    def test_steady_values(self):
        names = "abcdefgh"
        some = [
            {name: ("xor", names[(k + 1) % 8], names[(k + 3) % 8]) for k, name in enumerate(names)},
            {name: ("nand", names[(k + 1) % 8], names[(k + 2) % 8]) for k, name in enumerate(names)},
            {name: ("choose", name, names[(k + 1) % 8], names[(k + 2) % 8]) for k, name in enumerate(names)},
            {name: ("not", name) for name in names},
            {name: ("and", names[k - 1], names[k - 4], name) for k, name in enumerate(names)},
            {name: ("same", *[names[k - j] for j in range(4)]) for k, name in enumerate(names)},
        ]
        dice = random.Random(3)
        for _ in range(6):
            some.append({
                name: (tuple(dice.randint(0, 1) for _ in range(2 ** wires)), *[dice.choice(names) for _ in range(wires)])
                for name in names for wires in [dice.randint(1, 4)]})
        for gates in some:
            circuit = circuit_from((), gates)
            found = list(steady_values(circuit, {}))
            self.same([tuple(values.values()) for values in found], self.wanted(circuit))
            self.assertTrue(all(tuple(values) == tuple(names) for values in found))
            self.assertTrue(all(is_steady(circuit, {}, values) for values in found[::50]))

    def wanted(self, circuit):
        """Return the list of the rows of steady values, from the definition."""
        places = {name: at for at, name in enumerate(gate_names(circuit))}
        gates = []
        for name, sources, table in circuit[1]:
            rows = {row: oracle.forced(table, row) for row in all_rows((0, 1, 2), len(sources))}
            gates.append((places[name], [places[source] for source in sources], rows))
        return [
            row for row in all_rows((0, 1, 2), len(gates))
            if all(row[at] == rows[tuple(row[source] for source in read)] for at, read, rows in gates)]

    def test_with_inputs(self):
        for circuit in small_circuits(20, 2, 6) + [make_circuit("a", x=("and", "a", "x"), y=("or", "x", "y", "a"))]:
            for setting in settings_of(circuit, (0, 1, 2)):
                self.same(list(steady_values(circuit, setting)), oracle.steady(circuit, setting))


if __name__ == "__main__":
    unittest.main()
