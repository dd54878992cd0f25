"""Point 19.1: a shell."""

import random
import unittest

from loopgates.bench.bench import Bench
from loopgates.circuits.circuits import make_circuit
from loopgates.errors import (
    Conflict, InvalidCircuit, InvalidCommand, InvalidNumber, NothingToUndo, ParseError, UnknownName)
from loopgates.settling.known import known_values
from loopgates.text.formats import format_circuit, format_setting
from loopgates.text.shell import Shell
from tests.samples import CROSS, Case, EMPTY, LUCKY, TIE, odd_values

WORDS = "gate remove input lose set undo redo watch unwatch known setting why when circuit".split()
OF_CROSS = ("gate p not u", "gate q choose c p a", "gate u choose c a q")


def shell_of_cross(*, together=False):
    """Return a shell whose circuit is CROSS."""
    shell = Shell("c", "a")
    for line in ("gate p one", "gate u one", "gate q choose c p a", "gate u choose c a q", "gate p not u"):
        shell.run(line)
    return shell


def shown(shell):
    """Return all that can be asked of a shell."""
    bench = shell.bench()
    return len(shell), str(shell), bench.circuit, bench.setting, bench.known, bench.watched


class Shells(Case):
    def test_example(self):
        self.same(
            list(Shell("a").answers("gate x or a x", "watch x", "set a 1", "why x", "when x 1", "circuit")),
            ["none", "?", "x ?>1", "derived x 1 0", "1 a=1", "inputs a / x 0111 a x"])

    def test_every_command(self):
        shell = Shell()
        for line, answer in (
                ("known", "-"), ("setting", "-"), ("circuit", "inputs"), ("input a", "none"), ("gate x or a x", "none"), ("watch x", "?"), ("set a 1", "x ?>1"),
                ("gate y 10 x", "none"), ("watch y", "0"), ("known", "x=1 y=0"), ("setting", "a=1"), ("why x", "derived x 1 0"), ("why y", "derived x 1 0; y 0 0"),
                ("when x 1", "1 a=1"), ("when x 0", "0"), ("when y 0", "1 a=1"), ("when y 1", "0"), ("circuit", "inputs a / x 0111 a x / y 10 x"),
                ("set a ?", "x 1>?, y 0>?"), ("why x", "unknown"), ("set a 0", "none"), ("why x", "flips"), ("undo 2", "x ?>1, y ?>0"), ("redo 1", "x 1>?, y 0>?"),
                ("redo 1", "none"), ("gate x one", "x ?>1, y ?>0"), ("lose a", "none"), ("why x", "derived x 1"), ("when x 1", "1 -"), ("when y 1", "0"),
                ("gate y zero", "none"), ("remove x", "x 1>-"), ("gate x 0", "x ->0"), ("unwatch y", "ok"), ("undo 0", "none"), ("redo 0", "none"), ("undo 2", "x 0>1"),
                ("known", "x=1 y=0"), ("setting", "-"), ("input b", "none"), ("setting", "b=?"), ("set b 0", "none"), ("setting", "b=0")):
            before = len(shell)
            self.same([shell.run(line), len(shell), str(shell)], [answer, before + 1, f"shell with {before + 1} answers"], line)

    def test_tables(self):
        shell = Shell("a", "b", "c", "d")
        for number, (text, bits) in enumerate((
                ("and a b c d", "0000000000000001 a b c d"), ("or a b c", "01111111 a b c"), ("xor a a", "0110 a a"), ("nand a b", "1110 a b"), ("nor a b", "1000 a b"),
                ("same a b c", "10010110 a b c"), ("not a", "10 a"), ("buffer d", "01 d"), ("zero", "0"), ("one", "1"), ("choose a b c", "00110101 a b c"), ("1", "1"), ("01 x", "01 x"),
                ("0110 x x", "0110 x x"), ("0000000000000000 a a b b", "0000000000000000 a a b b"))):
            self.same(shell.run("gate x " + text), "none")
            self.same([shell.run("circuit"), len(shell)], ["inputs a b c d / x " + bits, 2 * number + 2])
        for text in ("and a", "and", "or a b c d a", "not", "not a b", "zero a", "one a", "choose a b", "choose a b c d", "buffer", "xor a", "nor a b c d a",
                     "01110", "011", "012 a", "And a b", "ands a b", "a b", "x", "0111 A b", "0111 a 1", "or a B", "or a abcdefghi", "? a", "-1"):
            self.refuses(ParseError, shell.run, "gate x " + text)
        for text in ("01", "01 a b", "0111 a", "1 a", "0111 a b c", "0110 a zz", "or a zz", "buffer y", "01 a a a a a a"):
            self.refuses(InvalidCircuit, shell.run, "gate x " + text)
        self.same(len(shell), 30)

    def test_numbers(self):
        shell = Shell("a")
        shell.run("set a 1")
        for text in ("00", "01", "-0", "-01", "+1", "1.0", "1_0", "a", "?", "-", "--1", "1-", "\u0661", "0x1", "1e3", "9" * 41, "-" + "9" * 41, "1" + "0" * 40, "\u00b2"):
            self.refuses(ParseError, shell.run, "undo " + text)
            self.refuses(ParseError, shell.run, "redo " + text)
        for number in (2, 7, 10 ** 39, 10 ** 40 - 1):
            self.same(self.refuses(NothingToUndo, shell.run, f"undo {number}").many, number)
            self.same(self.refuses(NothingToUndo, shell.run, f"redo {number}").many, number)
        for number in (-1, -10, 1 - 10 ** 40):
            self.same(self.refuses(InvalidNumber, shell.run, f"undo {number}").value, number)
            self.same(self.refuses(InvalidNumber, shell.run, f"redo {number}").value, number)
        self.same([shell.run("undo 1"), shell.run("redo 1"), len(shell)], ["none", "none", 3])

    def test_lines_that_are_no_commands(self):
        shell = shell_of_cross()
        before = shown(shell)
        for line in odd_values() + [
                "", " ", "Known", "known ", " known", "known x", "known  ", "setting a", "circuit 1", "gate", "gate x", "gate x ", "gate  x or a x", "gate x or a x ", "gate x or  a x",
                "gate x  or a x", "remove", "remove x y", "remove ", "remove  x", "remove x ", "input", "input b b", "lose", "lose a c", "set", "set a", "set a 1 1", "set  a 1", "set a 1 ",
                "undo", "undo 1 1", "redo", "redo 1 ", "watch", "watch p q", "unwatch", "unwatch p q", "why", "why p q", "when", "when p", "when p 1 1", "when p  1", "known\n", "known\tx",
                "gates x one", "gat x one", "quit", "set\ta 1", "\nknown", "knownx", "apply x", "bench", b"known", ["known"], ("known",), {"known": 1}, None]:
            self.refuses(InvalidCommand, shell.run, line)
        self.same(shown(shell), before)

    def test_parts_that_are_not_written_as_they_must_be(self):
        shell = shell_of_cross()
        before = shown(shell)
        for line in ("remove X", "remove 1", "remove abcdefghi", "remove x\n", "remove x,y", "input A", "input 1", "lose a1", "lose -", "set A 1", "set a 2", "set a -", "set a 01", "set a 1\n",
                     "set a true", "set zz 3", "watch P", "watch ?", "unwatch 0", "why P", "why p_", "when P 1", "when p 2", "when p ?", "when p -", "when p 01", "when zz 2", "gate X one",
                     "gate 1 one", "gate x\n one", "gate x one\n", "gate x or a\tx", "undo x", "redo ?"):
            self.refuses(ParseError, shell.run, line)
        self.same(shown(shell), before)

    def test_errors_of_what_is_called(self):
        shell = shell_of_cross()
        shell.run("watch p")
        before = shown(shell)
        for line, kind, name in (
                ("remove x", UnknownName, "x"), ("remove a", UnknownName, "a"), ("input a", Conflict, "a"), ("input p", Conflict, "p"), ("lose p", UnknownName, "p"), ("lose zz", UnknownName, "zz"),
                ("set p 1", UnknownName, "p"), ("set b 0", UnknownName, "b"), ("watch a", UnknownName, "a"), ("watch p", Conflict, "p"), ("unwatch q", UnknownName, "q"), ("why a", UnknownName, "a"),
                ("why zz", UnknownName, "zz"), ("when a 1", UnknownName, "a"), ("when zz 0", UnknownName, "zz"), ("gate a one", Conflict, "a")):
            self.same(self.refuses(kind, shell.run, line).name, name)
        for line in ("remove p", "lose a", "gate x or a zz", "gate p 01 p p"):
            self.refuses(InvalidCircuit, shell.run, line)
        self.same(shown(shell), before)
        for k in range(10):
            shell.run("input " + "bdefghijkl"[k])
        self.refuses(InvalidCircuit, shell.run, "input m")
        self.same(shell.run("undo 10"), "none")

    def test_making(self):
        self.same([Shell("c", "a").run("setting"), Shell().run("setting"), Shell(*"lkjihgfedcba").run("circuit")], [
            "a=? c=?", "-", "inputs a b c d e f g h i j k l"])
        for value in odd_values():
            if value not in ("a", "x", "and", "abcdefgh", "zzzzzzzz"):
                self.refuses(InvalidCircuit, Shell, value)
                self.refuses(InvalidCircuit, Shell, "b", value)
        self.refuses(InvalidCircuit, Shell, "a", "a")
        self.refuses(InvalidCircuit, Shell, *"abcdefghijklm")

    def test_answers_in_part(self):
        shell = Shell("a")
        walk = shell.answers("gate x or a x", "watch x", "set a 1", "nonsense", "set a 0")
        self.same([len(shell), next(walk), len(shell), next(walk), shell.run("set a 0"), next(walk), len(shell)], [0, "none", 1, "?", "none", "x ?>1", 4])
        self.refuses(InvalidCommand, next, walk)
        self.same([list(walk), len(shell), shell.run("known")], [[], 4, "x=1"])
        shell.answers(None)
        self.same([list(shell.answers()), len(shell)], [[], 5])
        self.refuses(UnknownName, list, shell.answers("unwatch x", "unwatch x", "set a 1"))
        self.same([len(shell), shell.run("setting")], [6, "a=1"])

    def test_benches_that_are_taken_out(self):
        shell = shell_of_cross()
        for line in ("watch p", "watch q", "set c 1", "set a 0", "gate u zero", "gate p one", "remove p"):
            if line != "remove p":
                shell.run(line)
        shell.run("gate q zero")
        shell.run("remove p")
        bench = shell.bench()
        self.same([bench.watched, bench.groups, bench.setting, bench.known], [("p", "q"), (), {"a": 0, "c": 1}, {"q": 0, "u": 0}])
        self.refuses(NothingToUndo, bench.undo)
        self.same(bench.apply(("gate", "p", (), (1,))), (("p", None, 1),))
        bench.unwatch("q")
        self.same([shell.run("known"), shell.run("gate p 0"), bench.known, bench.watched], ["q=0 u=0", "p ->0", {"p": 1, "q": 0, "u": 0}, ("p",)])
        shell.run("unwatch p")
        self.same([bench.watched, shell.bench().watched, shell.bench() == bench], [("p",), ("q",), False])
        bench.apply(("gate", "p", (), (0,)))
        self.same([shell.bench() == bench, shell.bench() == shell.bench(), Shell().bench() == Bench(EMPTY)], [True, True, True])

    def test_which_lines_are_in_a_shell(self):
        shell = Shell()
        for word in WORDS:
            for line in (word, word + " ", word + " x", word + "  ?", word + " \n"):
                self.same(line in shell, True)
            for line in (word + "\n", " " + word, word.upper(), word[:-1], word + "x", [word], (word,), word.encode(), {word: 1}):
                self.same(line in shell, False)
        for value in odd_values() + [shell, None, ""]:
            self.same(value in shell, False)
        self.same([len(shell), str(shell)], [0, "shell with 0 answers"])
        for call in (iter, list, sorted):
            self.refuses(TypeError, call, shell)

    def test_against_the_functions(self):
        for lines, circuit in ((OF_CROSS, CROSS), (("gate n not y", "gate y or n y"), LUCKY), (("gate x or a x",), TIE)):
            shell = Shell(*circuit[0])
            for line in lines:
                shell.run("gate " + line.split()[1] + " one")
            for line in lines:
                shell.run(line)
            self.same(shell.run("circuit"), format_circuit(circuit).replace("\n", " / "))
            dice = random.Random(1)
            for _ in range(30):
                setting = {name: dice.choice((0, 1, 2)) for name in circuit[0]}
                for name, value in setting.items():
                    shell.run(f"set {name} {'01?'[value]}")
                self.same([shell.run("setting"), shell.run("known")], [format_setting(setting), format_setting(known_values(circuit, setting))])

    def test_thousands_of_commands(self):
        shell = shell_of_cross()
        shell.run("watch p")
        shell.run("set c 0")
        for k in range(2000):
            shell.run(f"set a {k % 2}")
            self.assertEqual(shell.run("known"), f"p={1 - k % 2} q={1 - k % 2} u={k % 2}")
        self.same([len(shell), str(shell)], [4007, "shell with 4007 answers"])
        self.same(make_circuit("a", "c") == EMPTY, False)


if __name__ == "__main__":
    unittest.main()
