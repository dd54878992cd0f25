"""Points 12.1 and 12.2: nets of modules and behaviours."""

import random
import unittest

from loopgates.circuits.circuits import make_circuit
from loopgates.errors import Conflict, InvalidModule, InvalidNet, InvalidOperation, InvalidRow, TooMany, UnknownName
from loopgates.modules import nets
from loopgates.modules.behaviours import answer, behaviour_of, is_behaviour, is_module, make_module, module_from
from loopgates.modules.nets import Net
from tests.samples import Case, LUCKY, OSC, TIE, all_rows, odd_values, random_circuit, ring, word_like

KEEP = make_module(TIE, x="x")
EITHER = make_module(make_circuit("a", "b", out=("or", "a", "b")), out="out")
BOTH = behaviour_of(make_module(make_circuit("a", "b", out=("and", "a", "b")), out="out"))
PASS = make_module(make_circuit("a"), a="a")
EXAMPLE = (("a",), {"p": EITHER}, {("p", "a"): "a", ("p", "b"): ("p", "out")}, {"x": ("p", "out")})


def some_net(seed, *, most=8, behaviours=True):
    """Return a net with parts and sources by chance, the same one for the same seed."""
    dice = random.Random(seed)
    inputs = tuple("abcde"[:dice.randint(0, 5)])
    parts = {}
    for name in "klmnopqr"[:dice.randint(1, most)]:
        circuit = random_circuit(dice.randint(0, 10 ** 6), dice.randint(0, 4), dice.randint(1, 4))
        names = [*circuit[0], *[gate[0] for gate in circuit[1]]]
        module = module_from(circuit, {port: dice.choice(names) for port in "pqrs"[:dice.randint(1, 4)]})
        parts[name] = behaviour_of(module) if behaviours and dice.randint(0, 2) == 0 else module
    ports = {name: ports_of(part) for name, part in parts.items()}
    sources = [*inputs, *[(name, port) for name in parts for port in ports[name][1]]]
    wires = {(name, port): dice.choice(sources) for name in parts for port in ports[name][0]}
    return Net.made(inputs, parts, wires, {port: dice.choice(sources) for port in "uvwxyz"[:dice.randint(1, 6)]})


def as_behaviour(part):
    """Return the behaviour of a module or a behaviour."""
    return part if len(part) == 3 else behaviour_of(part)


def ports_of(part):
    """Return the input ports and the output ports of a part."""
    return as_behaviour(part)[:2]


def rounds(net, row):
    """Return the list of the dicts of all rounds, by the words of 12.2."""
    given = dict(zip(net.inputs, row))
    parts = {name: as_behaviour(part) for name, part in net.parts.items()}
    found = [{(name, port): 2 for name in parts for port in parts[name][1]}]
    while True:
        values = {**given, **found[-1]}
        after = {}
        for name, behaviour in parts.items():
            answers = answer(behaviour, tuple(values[net.wires[name, port]] for port in behaviour[0]))
            after.update({(name, port): value for port, value in zip(behaviour[1], answers)})
        if after == found[-1]:
            return found
        found.append(after)


def rows_of(net, most=12):
    """Return rows for the inputs of a net: all of them, or some."""
    rows = all_rows((0, 1, 2), len(net.inputs))
    return rows if len(rows) <= most else random.Random(len(rows)).sample(rows, most)


def shown(net):
    """Return all that can be asked of a net, except for its answers."""
    return (net.inputs, net.parts, net.wires, net.outputs, len(net), str(net))


class Making(Case):
    def test_example(self):
        net = Net.made(*EXAMPLE)
        self.same(
            [net((1,)), net((0,)), net.behaviour() == behaviour_of(KEEP), len(list(net.passes((1,)))), str(net)],
            [(1,), (2,), True, 2, "net of 1 parts, 1 inputs, 1 outputs"])
        self.same(nets.MAX_PARTS, 8)

    def test_properties(self):
        net = Net.made(("a", "b"), {"q": KEEP, "p": BOTH}, {("q", "a"): ("p", "out"), ("p", "b"): "b", ("p", "a"): "a"}, {
            "z": "a", "y": ("q", "x")})
        self.same(net.inputs, ("a", "b"))
        self.same(net.parts, {"p": BOTH, "q": KEEP})
        self.same(net.wires, {("p", "a"): "a", ("p", "b"): "b", ("q", "a"): ("p", "out")})
        self.same(net.outputs, {"y": ("q", "x"), "z": "a"})
        self.same([len(net), str(net)], [2, "net of 2 parts, 2 inputs, 2 outputs"])
        self.same([net((1, 1)), net((0, 1)), net((1, 2))], [(1, 1), (2, 0), (2, 1)])

    def test_single(self):
        for part in (KEEP, EITHER, BOTH, PASS, behaviour_of(KEEP), make_module(LUCKY, y="y", n="n")):
            net = Net.single(part)
            inputs, outputs = ports_of(part)
            self.same(shown(net), (
                inputs, {"it": part}, {("it", port): port for port in inputs}, {port: ("it", port) for port in outputs}, 1,
                f"net of 1 parts, {len(inputs)} inputs, {len(outputs)} outputs"))
            self.same(net.behaviour(), as_behaviour(part))
        for value in odd_values() + [TIE, (TIE, ()), Net.single(KEEP), behaviour_of(KEEP)[:2], [KEEP]]:
            self.refuses(InvalidModule, Net.single, value)

    def test_what_is_no_net(self):
        inputs, parts, wires, outputs = EXAMPLE
        for value in odd_values() + [("a", "b", "c", "d", "e", "f"), ("b",), ["a"], ("a", "a")]:
            if value != ("a",) and repr(value) != "('a', 'b')":
                self.refuses(InvalidNet, Net.made, value, parts, wires, outputs)
        for value in odd_values() + [
                {"p": TIE}, {"P": EITHER}, {"q": EITHER}, {"p": EITHER, "q": KEEP}, {"p": KEEP}, {1: EITHER}, {"p": EITHER, ("q",): PASS},
                [("p", EITHER)], {"p": list(EITHER)}, {"p": Net.single(EITHER)}, {"p": EITHER, "q": None}, {"": EITHER},
                {word_like(k): EITHER for k in range(9)}]:
            self.refuses(InvalidNet, Net.made, inputs, value, wires, outputs)
        for value in odd_values() + [
                {("p", "a"): "a"}, {**wires, ("p", "c"): "a"}, {**wires, ("q", "a"): "a"}, {**wires, "x": "a"}, {("p", "a"): "a", ("p", "out"): "a"},
                {**wires, ("p", "b"): "b"}, {**wires, ("p", "b"): ("p", "b")}, {**wires, ("p", "b"): ("q", "out")}, {**wires, ("p", "b"): ("p",)},
                {**wires, ("p", "b"): ["p", "out"]}, {**wires, ("p", "b"): ("a",)}, {**wires, ("p", "b"): None}, {**wires, ("p", "b"): 1},
                {**wires, ("p", "b"): (["p"], "out")}, {**wires, ("p", "b"): "p"}, list(wires.items())]:
            self.refuses(InvalidNet, Net.made, inputs, parts, value, outputs)
        for value in [value for value in odd_values() if repr(value) != "{}"] + [
                {}, {"x": "b"}, {"x": ("p", "a")}, {"X": "a"}, {1: "a"}, {"x": ["a"]}, {"x": None}, {port: "a" for port in "abcdefg"},
                {"x": "a", None: "a"}, [("x", "a")], {"x": ("p", "out", "x")}, {("x",): "a"}]:
            self.refuses(InvalidNet, Net.made, inputs, parts, wires, value)
        eight = {word_like(k): PASS for k in range(8)}
        net = Net.made((), eight, {(name, "a"): (name, "a") for name in eight}, {port: ("aaa", "a") for port in "abcdef"})
        self.same([len(net), net(()), net.inputs], [8, (2,) * 6, ()])
        self.same(str(Net.made(tuple("abcde"), parts, wires, outputs)), "net of 1 parts, 5 inputs, 1 outputs")
        self.same(Net.made(("a",), {"p": make_module(TIE, out="x")}, {("p", "a"): "a"}, {"x": "a"})((2,)), (2,))

    def test_no_access_to_the_state(self):
        inputs, parts, wires, outputs = EXAMPLE[0], dict(EXAMPLE[1]), dict(EXAMPLE[2]), dict(EXAMPLE[3])
        net = Net.made(inputs, parts, wires, outputs)
        before = shown(net)
        for own in (parts, wires, outputs, net.parts, net.wires, net.outputs, net.values_at((1,))):
            own.clear()
            own["q"] = None
        self.same([shown(net), net((1,))], [before, (1,)])
        for name in ("inputs", "parts", "wires", "outputs"):
            with self.assertRaises(AttributeError):
                setattr(net, name, {})
        for call in (iter, list, tuple, sorted):
            self.refuses(TypeError, call, net)


class Values(Case):
    def test_against_the_definition(self):
        for seed in range(120):
            net = some_net(seed)
            for row in rows_of(net):
                wanted = rounds(net, row)
                self.same(list(net.passes(row)), wanted)
                self.same(net.values_at(row), wanted[-1])
                values = {**dict(zip(net.inputs, row)), **wanted[-1]}
                self.same(net(row), tuple(values[source] for source in net.outputs.values()))

    def test_behaviours(self):
        for seed in range(60):
            net = some_net(seed, most=5)
            inputs, outputs, rows = net.behaviour()
            self.same([is_behaviour((inputs, outputs, rows)), inputs, outputs], [True, net.inputs, tuple(net.outputs)])
            every = all_rows((0, 1, 2), len(inputs))
            self.same([rows[at] for at in range(0, len(rows), 7)], [net(row) for row in every[::7]])

    def test_rings_of_ports_that_are_inputs_of_their_parts(self):
        names = ("p", "q", "r")
        net = Net.made(("a",), {name: PASS for name in names}, {("p", "a"): ("r", "a"), ("q", "a"): ("p", "a"), ("r", "a"): ("q", "a")}, {
            "x": ("q", "a"), "y": "a"})
        self.same([net((1,)), net.values_at((0,)), len(list(net.passes((1,))))], [(2, 1), {(name, "a"): 2 for name in names}, 1])
        self.same(behaviour_of(net.flattened()), net.behaviour())

    def test_rows(self):
        net = Net.made(*EXAMPLE)
        for value in odd_values() + [(0, 1), (), [1], (3,)]:
            if repr(value) not in ("(0,)", "(1,)", "(2,)"):
                self.refuses(InvalidRow, net, value)
                self.refuses(InvalidRow, net.values_at, value)
                self.refuses(InvalidRow, next, net.passes(value))
        net.passes(None)

    def test_passes_in_part_and_changed(self):
        net = Net.made(*EXAMPLE)
        walk, other = net.passes((1,)), net.passes((1,))
        first = next(walk)
        self.same([first, next(other)], [{("p", "out"): 2}, {("p", "out"): 2}])
        first[("p", "out")] = 0
        first["x"] = 1
        self.same([next(walk), list(walk), list(other)], [{("p", "out"): 1}, [], [{("p", "out"): 1}]])
        self.same(list(net.passes((0,))), [{("p", "out"): 2}])

    def test_long_chains(self):
        names = [word_like(k) for k in range(8)]
        chain = Net.made(("a",), {name: PASS for name in names}, {
            (name, "a"): (names[k - 1], "a") if k else "a" for k, name in enumerate(names)}, {"x": (names[7], "a")})
        self.same([len(list(chain.passes((1,)))), len(list(chain.passes((2,)))), chain((0,))], [9, 1, (0,)])

    def test_thousands_of_questions(self):
        net = some_net(7)
        row = (1,) * len(net.inputs)
        wanted = net(row)
        for _ in range(4000):
            self.assertEqual(net(row), wanted)
            self.assertTrue("k" in net and len(net) > 0)


class Flattened(Case):
    def test_behaviours(self):
        for seed in range(60):
            net = some_net(seed, behaviours=False)
            module = net.flattened()
            self.same([is_module(module), behaviour_of(module)], [True, net.behaviour()])

    def test_parts_that_are_behaviours(self):
        for parts in ({"p": EITHER, "q": BOTH}, {"p": BOTH, "q": EITHER}):
            net = Net.made((), parts, {(name, port): ("p", "out") for name in "pq" for port in "ab"}, {"x": ("q", "out")})
            self.refuses(InvalidOperation, net.flattened)

    def test_how_many_gates(self):
        for gates, fits in ((199, True), (200, False)):
            names = [word_like(k) for k in range(gates)]
            circuit = make_circuit("a", **{name: ("and", names[k - 1], "a") for k, name in enumerate(names)})
            net = Net.single(make_module(circuit, x=names[5]))
            if fits:
                self.same(behaviour_of(net.flattened()), net.behaviour())
            else:
                self.same(self.refuses(TooMany, net.flattened).limit, 200)
        big = make_module(ring(200), x="aaa")
        self.same(behaviour_of(Net.single(big).flattened()), ((), ("x",), ((2,),)))
        mixed = Net.made((), {"p": big, "q": behaviour_of(big)}, {}, {"x": ("p", "x")})
        self.refuses(InvalidOperation, mixed.flattened)
        self.same(self.refuses(TooMany, Net.made((), {"p": big, "q": make_module(LUCKY, y="y")}, {}, {"x": ("p", "x")}).flattened).limit, 200)

    def test_names_that_inputs_have_already(self):
        inputs = tuple(word_like(k) for k in range(5))
        net = Net.made(inputs, {"p": EITHER}, {("p", "a"): inputs[0], ("p", "b"): inputs[4]}, {"x": ("p", "out"), "y": inputs[2]})
        self.same([is_module(net.flattened()), behaviour_of(net.flattened()) == net.behaviour()], [True, True])


class Grouped(Case):
    def test_against_the_words(self):
        found = {"made": 0, "nothing": 0, TooMany: 0}
        for seed in range(400):
            net = some_net(seed)
            dice = random.Random(seed)
            names = tuple(dice.sample(sorted(net.parts), dice.randint(1, min(4, len(net)))))
            inside = {pair: source for pair, source in net.wires.items() if pair[0] in names}
            outside = {pair: source for pair, source in net.wires.items() if pair[0] not in names}
            own = [(name, port) for name in sorted(names) for port in ports_of(net.parts[name])[1]]
            read = [*outside.values(), *net.outputs.values()]
            feeds = [source for source in net.inputs if source in inside.values()]
            feeds += sorted({source for source in inside.values() if isinstance(source, tuple) and source not in own})
            exits = [pair for pair in own if pair in read]
            if not exits:
                self.refuses(InvalidOperation, net.grouped, names, "zz")
                found["nothing"] += 1
            elif len(feeds) > 5 or len(exits) > 6:
                self.same(self.refuses(TooMany, net.grouped, names, "zz").limit, 5 if len(feeds) > 5 else 6)
                found[TooMany] += 1
            else:
                self.check(net, names, feeds, exits, net.grouped(names, "zz"))
                found["made"] += 1
        self.assertTrue(min(found.values()) > 3, found)

    def check(self, net, names, feeds, exits, group):
        """Check a net with a part `zz` that reads some sources and stands for some pairs."""
        ports = dict(zip(feeds, "abcdef"))
        letters = {pair: ("zz", letter) for pair, letter in zip(exits, "abcdef")}
        self.same(list(group.parts), sorted([name for name in net.parts if name not in names] + ["zz"]))
        self.same(group.parts["zz"][:2], (tuple(ports.values()), tuple(letter for _, letter in letters.values())))
        self.assertTrue(is_behaviour(group.parts["zz"]))
        wires = {pair: letters.get(source, source) for pair, source in net.wires.items() if pair[0] not in names}
        wires.update({("zz", letter): source for source, letter in ports.items()})
        self.same(group.wires, {pair: wires[pair] for pair in sorted(wires)})
        self.same(group.outputs, {name: letters.get(source, source) for name, source in net.outputs.items()})
        self.same(group.inputs, net.inputs)
        for row in rows_of(net, 9):
            values, after = net.values_at(row), group.values_at(row)
            self.same(net(row), group(row))
            for pair in after:
                if pair[0] != "zz":
                    self.same(after[pair], values[pair])
            for pair, letter in letters.items():
                self.same(after[letter], values[pair])

    def test_one_part_and_all_parts(self):
        net = Net.made(*EXAMPLE)
        for name in ("p", "q", "it"):
            group = net.grouped(("p",), name)
            self.same(shown(group), (
                ("a",), {name: (("a",), ("a",), ((2,), (1,), (2,)))}, {(name, "a"): "a"}, {"x": (name, "a")}, 1,
                "net of 1 parts, 1 inputs, 1 outputs"))
        self.same(shown(net), shown(Net.made(*EXAMPLE)))

    def test_errors_in_their_order(self):
        parts = {"p": EITHER, "q": BOTH, "r": PASS}
        wires = {("p", "a"): "a", ("p", "b"): ("q", "out"), ("q", "a"): ("p", "out"), ("q", "b"): "b", ("r", "a"): ("r", "a")}
        net = Net.made(("a", "b"), parts, wires, {"x": ("q", "out")})
        before = shown(net)
        for value in odd_values() + [(), ("p", "p"), ["p"], ("p", "q", "p"), ([], []), "p", {"p": 1}]:
            if not isinstance(value, tuple) or not value:
                self.refuses(InvalidOperation, net.grouped, value, None)
        for value in (("p", "p"), ("p", "q", "p"), ([], []), (None, None), ({}, 0, {})):
            self.refuses(InvalidOperation, net.grouped, value, None)
        for value in odd_values() + ["P", "pp", "a", "out"]:
            self.same(self.refuses(UnknownName, net.grouped, ("p", value), None).name, value)
            self.same(self.refuses(UnknownName, net.grouped, (value, "p", 17, "zz"), "Q").name, value)
            if not (isinstance(value, str) and value.isascii() and value.isalpha() and value.islower() and len(value) <= 8):
                self.refuses(InvalidOperation, net.grouped, ("p",), value)
        self.same(self.refuses(Conflict, net.grouped, ("p", "r"), "q").name, "q")
        self.same(self.refuses(Conflict, net.grouped, ("r",), "p").name, "p")
        self.refuses(InvalidOperation, net.grouped, ("r",), "z")
        self.same(shown(net), before)
        self.same([len(net.grouped(("p", "q"), "p")), len(net.grouped(("q", "p", "r"), "q"))], [2, 1])

    def test_limits(self):
        wide = module_from(make_circuit("a", "b", "c", x=("and", "a", "b", "c"), y=("or", "a", "b", "c")), {port: "x" for port in "pqrs"})
        names = ("k", "l", "m")
        base = {"s" + name: make_module(make_circuit(o=("one",), z=("zero",)), o="o", z="z") for name in names}
        sources = [("sk", "o"), ("sk", "z"), ("sl", "o"), ("sl", "z"), ("sm", "o"), ("sm", "z")]
        wires = {(name, port): sources[(2 * k + at) % 6] for k, name in enumerate(names) for at, port in enumerate("abc")}
        net = Net.made((), {**{name: wide for name in names}, **base}, wires, {
            "t": ("k", "p"), "u": ("k", "q"), "v": ("k", "r"), "w": ("l", "p"), "x": ("l", "q"), "y": ("l", "r")})
        self.same(self.refuses(TooMany, net.grouped, names, "z").limit, 5)
        self.same(len(net.grouped(("k", "l"), "z").parts["z"][1]), 6)
        many = Net.made((), {**{name: wide for name in names}, "s": base["sk"], "t": PASS}, {
            **{(name, port): ("s", "o") for name in names for port in "abc"}, ("t", "a"): ("m", "s")}, {
                "t": ("k", "p"), "u": ("k", "q"), "v": ("k", "r"), "w": ("l", "p"), "x": ("l", "q"), "y": ("l", "r")})
        self.same(self.refuses(TooMany, many.grouped, names, "z").limit, 6)
        self.refuses(InvalidOperation, many.grouped, ("t",), "z")


class Together(Case):
    def test_sums(self):
        for seed in range(40):
            one, other = some_net(seed, most=4), some_net(seed + 900, most=4)
            other = Net.made(other.inputs, {"b" + name: part for name, part in other.parts.items()}, {
                ("b" + name, port): moved(source) for (name, port), source in other.wires.items()}, {
                    port + "x": moved(source) for port, source in other.outputs.items()})
            if len(one.outputs) + len(other.outputs) > 6:
                self.same(self.refuses(TooMany, lambda: one + other).limit, 6)
                continue
            before = shown(one), shown(other)
            both = one + other
            self.same((shown(one), shown(other)), before)
            self.same(both.inputs, tuple(sorted({*one.inputs, *other.inputs})))
            for got, mine, more in ((both.parts, one.parts, other.parts), (both.wires, one.wires, other.wires), (
                    both.outputs, one.outputs, other.outputs)):
                every = {**mine, **more}
                self.same(got, {key: every[key] for key in sorted(every)})
            self.assertTrue(both == other + one)
            for row in rows_of(both, 6):
                given = dict(zip(both.inputs, row))
                values = both.values_at(row)
                for net in (one, other):
                    own = net.values_at(tuple(given[name] for name in net.inputs))
                    self.same({pair: values[pair] for pair in own}, own)

    def test_errors_of_sums(self):
        net = Net.made(*EXAMPLE)
        for value in odd_values() + [KEEP, BOTH, EXAMPLE]:
            self.refuses(InvalidNet, lambda: net + value)
        same_part = Net.made(("b",), {"p": PASS, "q": PASS}, {("p", "a"): "b", ("q", "a"): "b"}, {"x": "b"})
        self.same(self.refuses(Conflict, lambda: net + same_part).name, "p")
        self.same(self.refuses(Conflict, lambda: same_part + same_part).name, "p")
        same_output = Net.made(tuple("bcdef"), {word_like(k): PASS for k in range(8)}, {(word_like(k), "a"): "b" for k in range(8)}, {
            "x": "b", "y": "c"})
        self.same(self.refuses(Conflict, lambda: net + same_output).name, "x")
        many = Net.made(tuple("bcdef"), {word_like(k): PASS for k in range(8)}, {(word_like(k), "a"): "b" for k in range(8)}, {
            port: "b" for port in "mnopqr"})
        self.same(self.refuses(TooMany, lambda: net + many).limit, 5)
        many = Net.made(("a",), {word_like(k): PASS for k in range(8)}, {(word_like(k), "a"): "a" for k in range(8)}, {
            port: "a" for port in "mnopqr"})
        self.same(self.refuses(TooMany, lambda: net + many).limit, 8)
        many = Net.made(("a",), {word_like(k): PASS for k in range(7)}, {(word_like(k), "a"): "a" for k in range(7)}, {
            port: "a" for port in "mnopqr"})
        self.same(self.refuses(TooMany, lambda: net + many).limit, 6)
        many = Net.made(tuple("bcde"), {word_like(k): PASS for k in range(7)}, {(word_like(k), "a"): "b" for k in range(7)}, {
            port: "b" for port in "mnopq"})
        self.same(str(net + many), "net of 8 parts, 5 inputs, 6 outputs")

    def test_replaced(self):
        net = Net.made(*EXAMPLE)
        other = behaviour_of(make_module(make_circuit("a", "b", out=("and", "a", "b")), out="out"))
        found = net.replaced("p", other)
        self.same([found.parts, found.wires, found.outputs, found.inputs], [{"p": other}, net.wires, net.outputs, net.inputs])
        self.same([found((0,)), found((1,)), net((0,)), net((1,))], [(0,), (2,), (2,), (1,)])
        for value in odd_values() + ["it", "a", ("p", "out")]:
            if value != "p":
                self.same(self.refuses(UnknownName, net.replaced, value, None).name, value)
            self.refuses(InvalidModule, net.replaced, "p", value)
        for part in (KEEP, PASS, make_module(make_circuit("a", "b", out=("or", "a", "b")), outs="out"), behaviour_of(KEEP),
                     make_module(make_circuit("a", "c", out=("or", "a", "c")), out="out"),
                     make_module(make_circuit("a", "b", "c", out=("or", "a", "c")), out="out")):
            self.refuses(InvalidOperation, net.replaced, "p", part)
        for seed in range(20):
            net = some_net(seed, behaviours=False)
            for name, part in net.parts.items():
                changed = net.replaced(name, behaviour_of(part))
                self.same([changed.behaviour() == net.behaviour(), changed == net, list(changed.parts)], [True, False, list(net.parts)])
                self.assertTrue(changed.replaced(name, part) == net)

    def test_equality_and_names(self):
        net = Net.made(*EXAMPLE)
        inputs, parts, wires, outputs = EXAMPLE
        self.assertTrue(net == Net.made(*EXAMPLE) and not net != Net.made(*EXAMPLE))
        for other in (
                Net.made(("a", "b"), parts, wires, outputs), Net.made(inputs, {"p": behaviour_of(EITHER)}, wires, outputs),
                Net.made(inputs, parts, {**wires, ("p", "b"): "a"}, outputs), Net.made(inputs, parts, wires, {"x": "a"}),
                Net.made(inputs, parts, wires, {"y": ("p", "out")}), Net.single(EITHER)):
            self.assertFalse(net == other or other == net)
        for value in odd_values() + [EXAMPLE, EITHER, str(net)]:
            self.same([net == value, value == net], [False, False])
            self.same(value in net, value == "p")
        self.same(["p" in net, "it" in Net.single(OR_OSC), ("p", "out") in net, ["p"] in net, net in net], [True, True, False, False, False])


OR_OSC = make_module(OSC, x="x")


def moved(source):
    """Return a source with another name of its part."""
    return ("b" + source[0], source[1]) if isinstance(source, tuple) else source


if __name__ == "__main__":
    unittest.main()
