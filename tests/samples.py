"""What several tests use: circuits, values of every kind, and comparisons that tell True from 1."""

import copy
import random
import unittest

from loopgates.base.tables import word_table
from loopgates.circuits.circuits import circuit_from, make_circuit

TIE = make_circuit("a", x=("or", "a", "x"))
OSC = make_circuit("a", x=("nand", "a", "x"))
CROSS = make_circuit("a", "c", p=("not", "u"), q=("choose", "c", "p", "a"), u=("choose", "c", "a", "q"))
LUCKY = make_circuit(n=("not", "y"), y=("or", "n", "y"))
EMPTY = ((), ())
# Two loops that read one another, one that stands alone, a gate behind them, gates without wires.
MIXED = make_circuit(
    "a", "b",
    c=("one",), d=("and", "c", "d", "a"), e=("or", "f", "d"), f=("and", "e", "b", "e"),
    g=("not", "e"), h=("xor", "h", "h"), i=("zero",), j=("nor", "i", "h", "b", "b"))


def nested(kind, depth):
    """Return a value of this kind of nesting, so many levels deep."""
    value = 0
    for _ in range(depth):
        value = {"tuple": (value,), "list": [value], "dict": {"a": value}}[kind]
    return value


def odd_values():
    """Return fresh values of all kinds that functions must be able to refuse."""
    return [
        None, True, False, 0, 1, 2, 3, 4, 5, -1, -2, 10 ** 39, -(10 ** 39),
        "", "a", "x", "A", "aB", "a1", "a b", " a", "a_", "\u00e9", "\u00df", "\u0430", "{", "`", "and",
        "abcdefgh", "abcdefghi", "zzzzzzzz", "a\n",
        (), [], {}, (0,), [0], {0: 0}, (1,), (2,), (0, 1), [0, 1], (0, 1, 2), (True,), (False, True), (0, True),
        ("0", "1"), (None,), ((),), ([],), ({},), ("a",), ("a", "b"), ["a", "b"], ("b", "a"), ("a", "a"),
        {"a": 0}, {"a": 1}, {"a": 2}, {"a": 3}, {"a": True}, {"a": None}, {"a": []}, {"a": 0, "b": 1}, {"x": 2},
        {"x": True}, {1: 2}, {None: 1}, {("x", 0): 1}, {("x", True): 1}, {("x", -1): 0},
        ("x", 0), ("x", -1), ("x", 1), ("x", 2), ("x", True), ("x", False), ("x", "0"), ("x",), ("x", 0, 0), ["x", 0],
        (("x", 0),), (["x", 0],), [("x", 0)], (("x", True),), (([], 0),), (("x", []),),
        (("a",), ()), [("a",), ()], (["a"], ()), (("a",), []), ((), (), ()), ((0,), ((0, 0),)), ((True,), ((0, 0),)),
        ("derived", ()), ("steady", {}), ("derived", (("x", 1, (0,)),)), ("steady", {"x": 2}), (("x", 1, (0,)),),
        nested("tuple", 12), nested("list", 12), nested("dict", 12), ({"a": [({},)]},),
    ]


def all_rows(items, length):
    """Return all rows of so many of the items, ascending."""
    rows = [()]
    for _ in range(length):
        rows = [row + (item,) for row in rows for item in items]
    return rows


def settings_of(circuit, items):
    """Return all dicts from the inputs to the items."""
    return [dict(zip(circuit[0], row)) for row in all_rows(items, len(circuit[0]))]


def word_like(number):
    """Return a different name of three letters for each number below 17576."""
    return "".join(chr(97 + number // 26 ** place % 26) for place in (2, 1, 0))


def random_circuit(seed, inputs, gates, most_wires=3):
    """Return a circuit with so many inputs and gates, the same one for the same seed."""
    dice = random.Random(seed)
    names = [word_like(k) for k in range(gates)]
    sources = list("zyxwvutsrqpo"[:inputs]) + names
    made = {}
    for name in names:
        wires = dice.randint(0, most_wires) if sources else 0
        table = tuple(dice.randint(0, 1) for _ in range(2 ** wires))
        made[name] = (table,) + tuple(dice.choice(sources) for _ in range(wires))
    return circuit_from(tuple("zyxwvutsrqpo"[:inputs]), made)


def small_circuits(many, inputs=2, gates=4):
    """Return circuits of the document and some that come by chance."""
    chance = [random_circuit(seed, seed % (inputs + 1), seed % gates + 1) for seed in range(many)]
    return [TIE, OSC, CROSS, LUCKY, EMPTY, make_circuit("a"), *chance]


def chain(length, *, backwards=False):
    """Return a chain of gates `not` behind one input."""
    names = [word_like(k) for k in range(length)]
    if backwards:
        names.reverse()
    return circuit_from(("a",), {name: ("not", "a" if k == 0 else names[k - 1]) for k, name in enumerate(names)})


def ring(length):
    """Return a ring of gates `buffer`, each of which reads the one before it."""
    names = [word_like(k) for k in range(length)]
    return circuit_from((), {name: ("buffer", names[k - 1]) for k, name in enumerate(names)})


def greatest():
    """Return a circuit of twelve inputs and 200 gates with four wires each."""
    dice = random.Random(5)
    names = [word_like(k) for k in range(200)]
    inputs = tuple("abcdefghijkl")
    words = [word_table("and", wires=4), word_table("or", wires=4), word_table("xor", wires=4)]
    gates = {}
    for k, name in enumerate(names):
        near = list(inputs) + names[max(0, k - 20):k + 3]
        gates[name] = (words[dice.choice((0, 0, 0, 1, 1, 1, 2))],) + tuple(dice.choice(near) for _ in range(4))
    return circuit_from(inputs, gates)


def wide(length, word="xor", *, closed=True):
    """Return a circuit of gates that each read the four next ones, the last ones the first ones or the input."""
    names = [word_like(k) for k in range(length)]
    made = {}
    for k, name in enumerate(names):
        read = [names[(k + j) % length] if closed or k + j < length else "a" for j in (1, 2, 3, 4)]
        made[name] = (word_table(word, wires=4), *read)
    return circuit_from(("a",), made)


def replaced(value, item):
    """Yield all tuples that have another item in the place of one of their integers, however deep in tuples."""
    for at, old in enumerate(value):
        if type(old) is int:
            yield value[:at] + (item,) + value[at + 1:]
        elif isinstance(old, tuple):
            for changed in replaced(old, item):
                yield value[:at] + (changed,) + value[at + 1:]


class Case(unittest.TestCase):
    """A test case that tells 1 from True, tuples from lists, and the orders of dicts."""

    maxDiff = 2000

    def same(self, got, wanted, hint=None):
        """Check that two values are equal, of the same kinds, with keys in the same order."""
        if repr(got) != repr(wanted):
            self.fail(f"{got!r} is not {wanted!r} ({hint!r})")

    def refuses(self, kind, call, *rest, **more):
        """Check that a call raises exactly this error, and return it."""
        try:
            got = call(*rest, **more)
        except Exception as error:
            if type(error) is not kind:
                self.fail(f"{error!r} instead of {kind.__name__} for {rest!r} {more!r}")
            return error
        self.fail(f"{got!r} instead of {kind.__name__} for {rest!r} {more!r}")
        return None

    def pure(self, call, *rest, **more):
        """Check that a call changes no argument and can be repeated, and return its result."""
        before = repr((rest, more))
        again, once_more = copy.deepcopy((rest, more))
        first = call(*rest, **more)
        self.same(repr((rest, more)), before, "changed")
        second = call(*again, **once_more)
        self.same(second, first, "unlike results of equal calls")
        return first

    def pure_dict(self, call, *rest, **more):
        """Check likewise, and that changes of the returned dict change no later result."""
        first = self.pure(call, *rest, **more)
        shown = repr(first)
        first.clear()
        first["changed"] = None
        again = call(*rest, **more)
        self.same(repr(again), shown)
        return again
