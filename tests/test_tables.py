"""Point 0.9: tables, forced bits, prime rows, words, and tables made of others."""

import random
import unittest

from loopgates.base import tables
from loopgates.base.tables import (
    fixed, is_table, joined, negated, prime_rows, table_word, used_wires, value_at, wires_of, word_table)
from loopgates.errors import InvalidNumber, InvalidRow, InvalidTable, UnknownName
from tests import oracle
from tests.samples import Case, all_rows, odd_values

WORDS = {
    "and": (2, 3, 4), "or": (2, 3, 4), "xor": (2, 3, 4), "nand": (2, 3, 4), "nor": (2, 3, 4), "same": (2, 3, 4),
    "not": (1,), "buffer": (1,), "zero": (0,), "one": (0,), "choose": (3,)}
ALL_SMALL = [table for wires in range(4) for table in all_rows((0, 1), 2 ** wires)]
DICE = random.Random(11)
SOME_GREAT = [tuple(DICE.randint(0, 1) for _ in range(16)) for _ in range(40)] + [
    (0,) * 16, (1,) * 16, (0, 1) * 8, (0,) * 8 + (1,) * 8, (0, 0, 1, 1) * 4, (0,) * 15 + (1,)]
SOME_TABLES = ALL_SMALL + SOME_GREAT
NO_TABLES = [
    [], [0], [0, 1], [0, 1, 1, 1], (), (0, 1, 1), (0,) * 3, (0,) * 5, (0,) * 6, (0,) * 7, (0,) * 12, (0,) * 15, (0,) * 17,
    (0,) * 32, (2,), (0, 2), (True,), (False,), (0, True), (False, True), (0, 0, 0, True), (-1, 0), ("0", "1"), "01",
    "0111", "and", (None,), ((0,),), ([0],), {0: 0}, {}, None, 0, 1, True, (10 ** 39, 0), ((0, 1), (1, 0))]


def result_of_word(word, bits):
    """Return what the document says of a word."""
    ones = sum(bits)
    many = len(bits)
    return int({
        "and": ones == many, "or": ones > 0, "xor": ones % 2 == 1, "nand": ones < many, "nor": ones == 0,
        "same": ones % 2 == 0, "not": ones == 0, "buffer": ones == 1, "zero": False, "one": True,
        "choose": many == 3 and bits[2 if bits[0] else 1] == 1}[word])


def function_of(table):
    """Return a dict from the rows of bits to the results."""
    wires = len(table).bit_length() - 1
    return {bits: oracle.result(table, bits) for bits in all_rows((0, 1), wires)}


class Tables(Case):
    def test_constant(self):
        self.same(tables.MAX_WIRES, 4)

    def test_is_table(self):
        for table in ALL_SMALL + SOME_GREAT:
            self.same(is_table(table), True, table)
        for value in NO_TABLES:
            self.same(is_table(value), False, value)
        for value in odd_values():
            wanted = value in [(0,), (1,), (0, 1)] and isinstance(value, tuple) and all(type(b) is int for b in value)
            self.same(is_table(value), wanted, value)

    def test_wires_of(self):
        for wires in range(5):
            self.same(wires_of((0,) * 2 ** wires), wires)
            self.same(wires_of((1,) * 2 ** wires), wires)

    def test_value_at(self):
        for table in ALL_SMALL + SOME_GREAT:
            for row in all_rows((0, 1, 2), len(table).bit_length() - 1):
                self.same(value_at(table, row), oracle.forced(table, row), (table, row))

    def test_value_at_with_one_source_twice(self):
        self.same(value_at((0, 1, 1, 0), (2, 2)), 2)
        self.same(value_at((1, 1, 1, 1), (2, 2)), 1)

    def test_used_wires(self):
        for table in ALL_SMALL + SOME_GREAT:
            function = function_of(table)
            used = []
            for wire in range(wires_of(table)):
                if any(function[bits] != function[bits[:wire] + (1 - bits[wire],) + bits[wire + 1:]] for bits in function):
                    used.append(wire)
            self.same(used_wires(table), tuple(used), table)

    def test_prime_rows(self):
        for table in SOME_TABLES:
            rows = all_rows((0, 1, 2), wires_of(table))
            for bit in (0, 1):
                forcing = [row for row in rows if oracle.forced(table, row) == bit]
                prime = [
                    row for row in forcing
                    if not any(less != row and all(v in (2, w) for v, w in zip(less, row)) for less in forcing)]
                self.same(prime_rows(table, bit), tuple(prime), (table, bit))

    def test_prime_rows_of_tables_without_wires(self):
        self.same([prime_rows((1,), 1), prime_rows((1,), 0), prime_rows((0,), 0)], [((),), (), ((),)])

    def test_word_table(self):
        for word, possible in WORDS.items():
            for wires in possible:
                wanted = tuple(result_of_word(word, bits) for bits in all_rows((0, 1), wires))
                self.same(word_table(word, wires=wires), wanted, (word, wires))
            first = 2 if 2 in possible else possible[0]
            self.same(word_table(word), word_table(word, wires=first), word)
            self.same(word_table(word, wires=None), word_table(word, wires=first), word)

    def test_word_table_refuses(self):
        for value in odd_values() + ["AND", "And", "and ", "", "nots", "xnor", ("and",), ["and"], {"and": 2}]:
            if not isinstance(value, str) or value not in WORDS:
                self.same(self.refuses(UnknownName, word_table, value).name, value)
                self.same(self.refuses(UnknownName, word_table, value, wires=value).name, value)
        for word, possible in WORDS.items():
            for wires in odd_values() + [6, 16, "2", (2,), [2], {2: 2}]:
                if wires is not None and not (type(wires) is int and wires in possible):
                    self.same(self.refuses(InvalidNumber, word_table, word, wires=wires).value, wires)

    def test_table_word(self):
        words = {}
        for word, possible in WORDS.items():
            for wires in possible:
                words[word_table(word, wires=wires)] = word
        self.assertEqual(len(words), 23)
        for table in list(words) + ALL_SMALL + SOME_GREAT:
            self.same(table_word(table), words.get(table), table)

    def test_fixed(self):
        for table in SOME_TABLES:
            function = function_of(table)
            wires = wires_of(table)
            for wire in range(wires):
                for bit in (0, 1):
                    rest = all_rows((0, 1), wires - 1)
                    wanted = tuple(function[row[:wire] + (bit,) + row[wire:]] for row in rest)
                    self.same(fixed(table, wire, bit), wanted, (table, wire, bit))

    def test_joined(self):
        for table in SOME_TABLES:
            function = function_of(table)
            wires = wires_of(table)
            for first in range(wires):
                for second in range(wires):
                    if first != second:
                        kept = [wire for wire in range(wires) if wire != second]
                        wanted = []
                        for row in all_rows((0, 1), wires - 1):
                            bits = dict(zip(kept, row))
                            bits[second] = bits[first]
                            wanted.append(function[tuple(bits[wire] for wire in range(wires))])
                        self.same(joined(table, first, second), tuple(wanted), (table, first, second))

    def test_negated(self):
        for table in ALL_SMALL + SOME_GREAT:
            self.same(negated(table), tuple(1 - bit for bit in table), table)

    def test_examples(self):
        self.same(
            [value_at((0, 1, 1, 1), (2, 1)), value_at((0, 1, 1, 1), (2, 0)), prime_rows((0, 1, 1, 1), 1),
             prime_rows((0, 1, 1, 1), 0)],
            [1, 2, ((1, 2), (2, 1)), ((0, 0),)])
        self.same(
            [word_table("choose"), fixed(word_table("choose"), 0, 1), joined((0, 1, 1, 0), 0, 1), table_word((1, 0))],
            [(0, 0, 1, 1, 0, 1, 0, 1), (0, 1, 0, 1), (0, 0), "not"])


class TableErrors(Case):
    def test_what_is_no_table(self):
        for value in NO_TABLES + [value for value in odd_values() if not is_table(value)]:
            self.refuses(InvalidTable, wires_of, value)
            self.refuses(InvalidTable, value_at, value, ())
            self.refuses(InvalidTable, used_wires, value)
            self.refuses(InvalidTable, prime_rows, value, 0)
            self.refuses(InvalidTable, table_word, value)
            self.refuses(InvalidTable, fixed, value, 0, 0)
            self.refuses(InvalidTable, joined, value, 0, 1)
            self.refuses(InvalidTable, negated, value)

    def test_the_table_is_looked_at_first(self):
        for value in ((0, 1, 1), [0, 1], None):
            self.refuses(InvalidTable, value_at, value, None)
            self.refuses(InvalidTable, prime_rows, value, 2)
            self.refuses(InvalidTable, fixed, value, 9, 9)
            self.refuses(InvalidTable, joined, value, 9, 9)

    def test_rows_of_another_length_or_kind(self):
        for wires in range(5):
            table = (0, 1) * 8
            table = table[:2 ** wires]
            for length in range(6):
                if length != wires:
                    self.refuses(InvalidRow, value_at, table, (0,) * length)
            for value in odd_values():
                if not (isinstance(value, tuple) and len(value) == wires and all(
                        type(v) is int and 0 <= v <= 2 for v in value)):
                    self.refuses(InvalidRow, value_at, table, value)

    def test_bits(self):
        for value in odd_values():
            if not (type(value) is int and value in (0, 1)):
                self.same(self.refuses(InvalidNumber, prime_rows, (0, 1), value).value, value)
                self.same(self.refuses(InvalidNumber, fixed, (0, 1), 0, value).value, value)

    def test_wires(self):
        for wires in range(5):
            table = (0,) * 2 ** wires
            for value in odd_values():
                if not (type(value) is int and 0 <= value < wires):
                    self.same(self.refuses(InvalidNumber, fixed, table, value, 0).value, value)
                    self.same(self.refuses(InvalidNumber, fixed, table, value, None).value, value)
                    self.same(self.refuses(InvalidNumber, joined, table, value, 0).value, value)
                    if wires:
                        self.same(self.refuses(InvalidNumber, joined, table, 0, value).value, value)

    def test_order(self):
        self.same(self.refuses(InvalidNumber, joined, (0, 1, 1, 1), 2, 3).value, 2)
        self.same(self.refuses(InvalidNumber, joined, (0, 1, 1, 1), 1, 3).value, 3)
        self.same(self.refuses(InvalidNumber, joined, (0, 1, 1, 1), True, None).value, True)
        self.same(self.refuses(InvalidNumber, joined, (0, 1, 1, 1), 1, True).value, True)
        self.same(self.refuses(InvalidNumber, fixed, (0, 1, 1, 1), 2, 3).value, 2)
        self.same(self.refuses(InvalidNumber, fixed, (0, 1, 1, 1), 1, 3).value, 3)

    def test_one_wire_is_not_joined_with_itself(self):
        for wires in range(1, 5):
            for wire in range(wires):
                self.same(self.refuses(InvalidNumber, joined, (0,) * 2 ** wires, wire, wire).value, wire)

    def test_arguments_stay(self):
        self.pure(value_at, (0, 1, 1, 1), (2, 1))
        self.pure(prime_rows, (0, 1, 1, 1), 1)
        self.pure(fixed, (0, 1, 1, 1), 1, 1)
        self.pure(joined, (0, 1, 1, 1), 1, 0)
        self.pure(used_wires, (0, 1, 1, 1))
        self.pure(word_table, "and", wires=3)
        for value in odd_values():
            self.pure(is_table, value)


if __name__ == "__main__":
    unittest.main()
