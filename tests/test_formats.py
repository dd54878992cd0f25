"""Point 18.3: texts of tables, circuits, settings and lines."""

import random
import unittest

from loopgates.base.tables import word_table
from loopgates.circuits.circuits import circuit_from, make_circuit
from loopgates.errors import InvalidCircuit, InvalidSetting, InvalidTable, InvalidValues, ParseError
from loopgates.settling.derivations import derivation, derive_all
from loopgates.settling.known import known_values
from loopgates.text.formats import (
    format_circuit, format_lines, format_setting, format_table, parse_circuit, parse_lines, parse_setting, parse_table)
from tests.samples import (
    CROSS, Case, EMPTY, LUCKY, MIXED, TIE, all_rows, chain, greatest, odd_values, random_circuit, replaced, ring, small_circuits, wide)

PARSERS = (parse_table, parse_circuit, parse_setting, parse_lines)
SIGNS = "01?-;=, \nabzA2345/&\t\u0660"


def bent(dice, text):
    """Return a text with a sign more, fewer or otherwise."""
    at = dice.randint(0, len(text))
    sign = dice.choice(SIGNS)
    return dice.choice((text[:at] + sign + text[at:], text[:at] + text[at + 1:], text[:at] + sign + text[at + 1:], text + sign, sign + text))


class Texts(Case):
    def back(self, write, read, value, text):
        """Check a text and its value, and that no text that is a little otherwise is read as something else than its own."""
        self.same(self.pure(write, value), text)
        self.same(self.pure(read, text), value)
        dice = random.Random(text)
        for _ in range(30):
            other = bent(dice, text)
            try:
                found = read(other)
            except ParseError:
                continue
            self.same(write(found), other, other)

    def test_examples(self):
        self.same([format_circuit(TIE), format_lines(derive_all(CROSS, {"a": 0, "c": 1}))], [
            "inputs a\nx 0111 a x", "q 0 0 2; u 0 0 2; p 1 0"])

    def test_tables(self):
        for wires in range(4):
            for table in all_rows((0, 1), 2 ** wires):
                text = format_table(table)
                self.same([text, parse_table(text)], ["".join(map(str, table)), table])
        self.back(format_table, parse_table, word_table("xor", wires=4), "0110100110010110")
        self.back(format_table, parse_table, (1,), "1")
        for text in ("", "2", "011", "01110", "0" * 32, "0 1", " 01", "01 ", "01\n", "0l", "0\u0661", "10-1", "or", "0b01", "?1"):
            self.refuses(ParseError, parse_table, text)
        for value in odd_values():
            self.refuses(InvalidTable, format_table, value) if repr(value) not in ("(0,)", "(1,)", "(0, 1)") else format_table(value)

    def test_circuits(self):
        self.back(format_circuit, parse_circuit, EMPTY, "inputs")
        self.back(format_circuit, parse_circuit, TIE, "inputs a\nx 0111 a x")
        self.back(format_circuit, parse_circuit, LUCKY, "inputs\nn 10 y\ny 0111 n y")
        self.back(format_circuit, parse_circuit, make_circuit("b", "a"), "inputs a b")
        self.back(format_circuit, parse_circuit, make_circuit("inputs", c=("one",), z=("zero",)), "inputs inputs\nc 1\nz 0")
        self.back(format_circuit, parse_circuit, make_circuit(inputs=("buffer", "inputs")), "inputs\ninputs 01 inputs")
        for circuit in small_circuits(30) + [CROSS, MIXED, chain(200), ring(200), wide(200), greatest(), random_circuit(4, 12, 90, 4)]:
            self.back(format_circuit, parse_circuit, circuit, "\n".join(
                [" ".join(("inputs",) + circuit[0])] + [" ".join((name, "".join(map(str, table))) + sources) for name, sources, table in circuit[1]]))

    def test_texts_that_are_no_circuits(self):
        for text in (
                "", " ", "input a", "Inputs a", "inputs  a", "inputs a ", " inputs a", "inputs\n", "inputs a\n", "inputs a\nx 0111 a x\n", "inputs a\n\nx 0111 a x",
                "inputs a\r\nx 0111 a x", "inputs a\nx  0111 a x", "inputs a\nx 0111 a x ", "inputs a\nx 0111  a x", "inputs a\nx 0111 a", "inputs a\nx or a x",
                "inputs a\nx 0111 a y", "inputs b a", "inputs a a", "inputs a\na 1", "inputs A", "inputs a\nx", "inputs a\nx ", "inputs a\n 1", "inputs a\nx 0111 x a b",
                "inputs\ny 1\nx 0", "inputs\nx 1\nx 1", "inputs\nx 2", "x 1", "inputs a x 0111 a x", "inputs a / x 0111 a x", "inputs,a", "inputs abcdefghi",
                "inputs a b c d e f g h i j k l m", "inputs\nx 01 x\ty 1", "inputs\u00a0a", "inputs a\x0bx 1"):
            self.refuses(ParseError, parse_circuit, text)
        self.same(len(parse_circuit("inputs a b c d e f g h i j k l")[0]), 12)
        full = format_circuit(ring(200))
        self.refuses(ParseError, parse_circuit, full + "\nzz 1")

    def test_settings(self):
        self.back(format_setting, parse_setting, {}, "-")
        self.back(format_setting, parse_setting, {"a": 0, "b": 1, "c": 2}, "a=0 b=1 c=?")
        self.same(format_setting({"zz": 1, "b": 2, "abcdefgh": 0}), "abcdefgh=0 b=? zz=1")
        self.same(list(parse_setting("abcdefgh=0 b=? zz=1")), ["abcdefgh", "b", "zz"])
        self.same(format_setting(known_values(CROSS, {"a": 0, "c": 1})), "p=1 q=0 u=0")
        many = {name: number % 3 for number, name in enumerate(known_values(ring(200), {}))}
        self.back(format_setting, parse_setting, many, " ".join(f"{name}={'01?'[value]}" for name, value in many.items()))
        for text in ("", " ", "a", "a=", "=0", "a=2", "a=00", "a =0", "a= 0", "a=0 ", " a=0", "a=0  b=1", "b=0 a=1", "a=0 a=0", "a=0 a=1", "A=0", "a=0,b=1", "a=0\nb=1", "a=0\n",
                     "- ", "--", "-=0", "a=-", "a==0", "a=0=1", "abcdefghi=0", "a=0 -", "- a=0", "\u00e9=0", "a=\u0660"):
            self.refuses(ParseError, parse_setting, text)
        for value in odd_values() + [{"a": 0, "A": 0}, {"a": 0, 1: 1}, {"a": "0"}, {"a": -1}, {"": 0}, {"abcdefghi": 0}]:
            if isinstance(value, dict) and all(isinstance(k, str) and type(v) is int and v in (0, 1, 2) and k.isalpha() and k.islower() and len(k) < 9 for k, v in value.items()):
                self.same(parse_setting(format_setting(value)), dict(sorted(value.items())))
            else:
                self.refuses(InvalidSetting, format_setting, value)

    def test_lines(self):
        self.back(format_lines, parse_lines, (), "-")
        self.back(format_lines, parse_lines, (("x", 1, (0, 2)),), "x 1 0 2")
        self.back(format_lines, parse_lines, (("x", 1, ()), ("abcdefgh", 0, (0, 1, 2, 3)), ("x", 1, ())), "x 1; abcdefgh 0 0 1 2 3; x 1")
        self.same(format_lines(derivation(TIE, {"a": 1}, "x")), "x 1 0")
        lines = derive_all(chain(200), {"a": 1})
        self.back(format_lines, parse_lines, lines, "; ".join(f"{name} {bit} 0" for name, bit, _ in lines))
        for text in ("", " ", "x", "x 2", "x 1 4", "x 1 1 0", "x 1 0 0", "x 1 ", " x 1", "x  1", "x 1;y 0", "x 1;  y 0", "x 1 ; y 0", "x 1; ", "; x 1", "x 1;", "x 1,y 0", "X 1", "x 1 00",
                     "x 10", "x 1 0,2", "- ", "--", "x -", "x 1\n", "x 1; -", "-; x 1", "abcdefghi 1", "1 x", "x ?", "x 1 \u0660", "x 1\t0"):
            self.refuses(ParseError, parse_lines, text)
        good = (("x", 1, (0, 2)), ("y", 0, ()))
        for value in odd_values() + [
                list(good), (list(good[0]),), (("x", 1),), (("x", 1, (), 0),), (("X", 1, ()),), (("x", 2, ()),), (("x", True, ()),), (("x", 1, [0]),), (("x", 1, (4,)),),
                (("x", 1, (-1,)),), (("x", 1, (1, 0)),), (("x", 1, (0, 0)),), (("x", 1, (True,)),), (("x", 1, None),), (("x", "1", ()),), ((1, 1, ()),), ("x 1",), good + (None,),
                (("x", 1, (0, 1, 2, 3, 4)),), (("", 1, ()),)]:
            if repr(value) not in ("()", "(('x', 1, (0,)),)"):
                self.refuses(InvalidValues, format_lines, value)
        for item in (True, None, "0", 7, -1):
            for value in replaced(good, item):
                self.refuses(InvalidValues, format_lines, value)

    def test_values_of_every_kind(self):
        for value in odd_values() + [b"-", ["-"], ("-",), {"-": 1}, {}, 0]:
            for read in PARSERS:
                if not (isinstance(value, str) and value == "-"):
                    self.refuses(ParseError, read, value)
            if value != (("a",), ()) and value != ((), ()):
                self.refuses(InvalidCircuit, format_circuit, value)
        for read in PARSERS:
            for text in ("0" * 70000, "a " * 40000, "=" * 9, "\n" * 9000, "; " * 20000):
                self.refuses(ParseError, read, text)

    def test_small_texts_by_the_thousand(self):
        for _ in range(2000):
            self.assertEqual(parse_circuit(format_circuit(CROSS)), CROSS)
            self.assertEqual(parse_setting("a=0 b=1"), {"a": 0, "b": 1})
        self.same(circuit_from(("a",), {}), parse_circuit("inputs a"))


if __name__ == "__main__":
    unittest.main()
