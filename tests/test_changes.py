"""Point 0.10 and the interface of stage 2: circuits that are renamed, held and cut to cones."""

import unittest

from loopgates.circuits.circuits import (
    circuit_from, cone, cone_of, gate_names, held, held_by, is_circuit, make_circuit, renamed, renamed_by)
from loopgates.errors import Conflict, InvalidCircuit, InvalidNumber, InvalidOperation, TooMany, UnknownName
from tests.samples import CROSS, Case, EMPTY, LUCKY, MIXED, TIE, chain, greatest, odd_values, word_like


class Renamed(Case):
    def test_some_names(self):
        self.same(renamed(TIE, a="z"), (("z",), (("x", ("z", "x"), (0, 1, 1, 1)),)))
        self.same(renamed(TIE, x="b"), (("a",), (("b", ("a", "b"), (0, 1, 1, 1)),)))
        self.same(renamed(CROSS), CROSS)
        self.same(renamed_by(CROSS, {}), CROSS)
        self.same(renamed_by(EMPTY, {}), EMPTY)

    def test_inputs_and_gates_are_put_in_order_again(self):
        self.same(renamed(CROSS, a="z", p="w", u="b"), make_circuit(
            "z", "c", w=("not", "b"), q=("choose", "c", "w", "z"), b=("choose", "c", "z", "q")))

    def test_exchanged_names(self):
        self.same(renamed(TIE, a="x", x="a"), (("x",), (("a", ("x", "a"), (0, 1, 1, 1)),)))
        self.same(renamed(LUCKY, n="y", y="n"), make_circuit(y=("not", "n"), n=("or", "y", "n")))
        self.same(renamed(CROSS, a="c", c="a", p="q", q="u", u="p"), make_circuit(
            "a", "c", q=("not", "p"), u=("choose", "a", "q", "c"), p=("choose", "a", "c", "u")))

    def test_same_name_again(self):
        self.same(renamed(TIE, x="x", a="a"), TIE)

    def test_the_dict_takes_names_of_parameters(self):
        circuit = circuit_from((), {"circuit": ("not", "names"), "names": ("one",)})
        self.same(renamed_by(circuit, {"circuit": "names", "names": "circuit"}), (
            (), (("circuit", (), (1,)), ("names", ("circuit",), (1, 0)))))
        self.same(renamed(circuit, names="self"), ((), (("circuit", ("self",), (1, 0)), ("self", (), (1,)))))

    def test_one_name_twice(self):
        self.same(self.refuses(Conflict, renamed, TIE, a="x").name, "x")
        self.same(self.refuses(Conflict, renamed, TIE, x="a").name, "a")
        self.same(self.refuses(Conflict, renamed, TIE, x="n", a="n").name, "n")
        self.same(self.refuses(Conflict, renamed, CROSS, p="z", q="z", a="b", c="b").name, "b")
        self.same(self.refuses(Conflict, renamed, CROSS, u="q", c="p").name, "p")
        self.same(self.refuses(Conflict, renamed, CROSS, a="c", c="u", u="q").name, "q")

    def test_wrong_arguments(self):
        for value in odd_values():
            if not isinstance(value, dict):
                self.refuses(InvalidOperation, renamed_by, CROSS, value)
            if value not in ("a", "x", "and", "abcdefgh", "zzzzzzzz"):
                self.refuses(InvalidOperation, renamed_by, TIE, {"a": value})
                self.refuses(InvalidOperation, renamed, TIE, x=value)
        for key in (None, 1, True, "", "z", "X", (), ("x", 0), -1, 10 ** 39):
            self.same(self.refuses(UnknownName, renamed_by, TIE, {"a": "b", key: "c", "zz": "d"}).name, key)
        self.refuses(InvalidCircuit, renamed, ((),), a="b")

    def test_order_of_errors(self):
        self.refuses(InvalidCircuit, renamed_by, [], None)
        self.same(self.refuses(UnknownName, renamed_by, TIE, {"a": 1, "z": 2, "y": 3}).name, "z")
        self.same(self.refuses(UnknownName, renamed, TIE, a="x", y="y", b="b").name, "y")
        self.refuses(InvalidOperation, renamed, TIE, a="x", x="")
        self.refuses(InvalidOperation, renamed, CROSS, a="c", p=None)

    def test_arguments_stay(self):
        self.pure(renamed_by, CROSS, {"q": "z", "a": "q"})
        self.pure(renamed, CROSS, q="z", a="q")

    def test_greatest(self):
        circuit = greatest()
        names = circuit[0] + gate_names(circuit)
        there = {name: "z" + name for name in names}
        back = {fresh: name for name, fresh in there.items()}
        moved = renamed_by(circuit, there)
        self.assertTrue(is_circuit(moved))
        self.assertEqual(gate_names(moved)[0], "zaaa")
        self.same(renamed_by(moved, back), circuit)
        turned = renamed_by(circuit, dict(zip(names, names[::-1])))
        self.assertTrue(is_circuit(turned))
        self.same(renamed_by(turned, dict(zip(names[::-1], names))), circuit)


class Held(Case):
    def test_inputs(self):
        self.same(held(TIE, a=1), ((), (("a", (), (1,)), ("x", ("a", "x"), (0, 1, 1, 1)))))
        self.same(held(TIE, a=0), ((), (("a", (), (0,)), ("x", ("a", "x"), (0, 1, 1, 1)))))

    def test_gates(self):
        self.same(held(TIE, x=0), (("a",), (("x", (), (0,)),)))
        self.same(held_by(CROSS, {"u": 1, "c": 0}), (
            ("a",), (("c", (), (0,)), ("p", ("u",), (1, 0)), ("q", ("c", "p", "a"), (0, 0, 1, 1, 0, 1, 0, 1)),
                     ("u", (), (1,)))))

    def test_nothing_and_everything(self):
        self.same([held(CROSS), held_by(EMPTY, {})], [CROSS, EMPTY])
        self.same(held(CROSS, u=0, q=1, p=0, c=1, a=0), ((), tuple((n, (), (b,)) for n, b in zip("acpqu", (0, 1, 0, 1, 0)))))

    def test_the_dict_takes_names_of_parameters(self):
        circuit = circuit_from(("bits",), {"circuit": ("not", "bits")})
        self.same(held_by(circuit, {"circuit": 1}), (("bits",), (("circuit", (), (1,)),)))
        self.same(held(circuit, bits=1), ((), (("bits", (), (1,)), ("circuit", ("bits",), (1, 0)))))

    def test_limit(self):
        names = [word_like(k) for k in range(200)]
        full = circuit_from(("a", "b"), {name: ("not", "a") for name in names})
        self.same(self.refuses(TooMany, held, full, a=0).limit, 200)
        self.same(self.refuses(TooMany, held, full, b=0, a=1, aaa=1).limit, 200)
        self.same(len(held(full, aaa=1)[1]), 200)
        one_less = circuit_from(("a", "b"), {name: ("not", "a") for name in names[:199]})
        self.same(len(held(one_less, a=0)[1]), 200)
        self.same(self.refuses(TooMany, held, one_less, a=0, b=0).limit, 200)

    def test_wrong_arguments(self):
        for value in odd_values():
            if not isinstance(value, dict):
                self.refuses(InvalidOperation, held_by, CROSS, value)
            if not (type(value) is int and value in (0, 1)):
                self.same(self.refuses(InvalidNumber, held_by, TIE, {"a": value}).value, value)
                self.same(self.refuses(InvalidNumber, held, TIE, a=0, x=value).value, value)
        for key in (None, 1, True, "", "z", "X", (), ("x", 0), -1, 10 ** 39):
            self.same(self.refuses(UnknownName, held_by, TIE, {"a": 1, key: 1, "zz": 0}).name, key)

    def test_order_of_errors(self):
        self.refuses(InvalidCircuit, held_by, [], None)
        self.refuses(InvalidCircuit, held, None, a=2)
        self.same(self.refuses(UnknownName, held_by, TIE, {"a": 2, "z": 2, "y": 3}).name, "z")
        self.same(self.refuses(InvalidNumber, held_by, CROSS, {"u": 2, "c": 3, "a": 0}).value, 2)
        self.same(self.refuses(InvalidNumber, held_by, CROSS, {"c": 3, "u": 2, "a": True}).value, 3)
        full = circuit_from(("a",), {word_like(k): ("one",) for k in range(200)})
        self.same(self.refuses(InvalidNumber, held, full, a=True).value, True)
        self.same(self.refuses(UnknownName, held, full, a=1, b=1).name, "b")

    def test_arguments_stay(self):
        self.pure(held_by, CROSS, {"q": 1, "a": 0})
        self.pure(held, CROSS, q=1, a=0)


class Cones(Case):
    def test_gates_that_are_read(self):
        self.same(cone(CROSS, "p"), CROSS)
        self.same(cone(MIXED, "d"), make_circuit("a", c=("one",), d=("and", "c", "d", "a")))
        self.same(cone(MIXED, "c"), ((), (("c", (), (1,)),)))
        self.same(cone(MIXED, "g"), make_circuit(
            "a", "b", c=("one",), d=("and", "c", "d", "a"), e=("or", "f", "d"), f=("and", "e", "b", "e"), g=("not", "e")))
        self.same(cone(MIXED, "j", "c"), make_circuit(
            "b", c=("one",), h=("xor", "h", "h"), i=("zero",), j=("nor", "i", "h", "b", "b")))

    def test_a_wire_that_the_function_does_not_use_is_read(self):
        circuit = make_circuit("a", x=((0, 0), "y"), y=("not", "a"))
        self.same(cone(circuit, "x"), circuit)

    def test_inputs(self):
        self.same(cone(CROSS, "a"), (("a",), ()))
        self.same(cone(CROSS, "c", "a"), (("a", "c"), ()))
        self.same(cone(MIXED, "b", "c"), (("b",), (("c", (), (1,)),)))

    def test_repeated_names(self):
        self.same(cone(MIXED, "h", "h", "a", "h", "a"), (("a",), (("h", ("h", "h"), (0, 1, 1, 0)),)))
        self.same(cone_of(MIXED, ("h",) * 300), cone(MIXED, "h"))

    def test_no_names(self):
        self.same([cone(CROSS), cone_of(CROSS, ()), cone(EMPTY)], [EMPTY, EMPTY, EMPTY])

    def test_greatest(self):
        circuit = chain(200)
        self.same(cone(circuit, word_like(199)), circuit)
        self.same(len(cone(circuit, word_like(99))[1]), 100)
        circuit = greatest()
        self.same(cone_of(circuit, circuit[0] + gate_names(circuit)), circuit)

    def test_wrong_arguments(self):
        for value in odd_values():
            if not isinstance(value, tuple):
                self.refuses(InvalidOperation, cone_of, CROSS, value)
            if value not in ("a", "x"):
                self.same(self.refuses(UnknownName, cone, TIE, value).name, value)
                self.same(self.refuses(UnknownName, cone, TIE, "a", value, "zz").name, value)
                self.same(self.refuses(UnknownName, cone_of, TIE, ("x", "x", value, None)).name, value)
        self.refuses(InvalidOperation, cone_of, CROSS, ["p"])
        self.refuses(InvalidOperation, cone_of, CROSS, "p")

    def test_order_of_errors(self):
        self.refuses(InvalidCircuit, cone_of, [], None)
        self.refuses(InvalidCircuit, cone, (), "zz")
        self.same(self.refuses(UnknownName, cone, CROSS, "zz", "yy").name, "zz")

    def test_arguments_stay(self):
        self.pure(cone_of, MIXED, ("g", "a"))
        self.pure(cone, MIXED, "g", "a")


if __name__ == "__main__":
    unittest.main()
