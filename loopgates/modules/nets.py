"""Nets: modules and behaviours that read one another."""

from loopgates.base.names import UNKNOWN, is_name, is_name_tuple, is_row
from loopgates.base.rows import ternary_row
from loopgates.circuits.circuits import MAX_GATES
from loopgates.circuits.fresh import fresh_names
from loopgates.errors import Conflict, InvalidModule, InvalidNet, InvalidOperation, InvalidRow, TooMany, UnknownName
from loopgates.modules.behaviours import (
    MAX_OUTPUTS, MAX_PORTS, ROW_COUNTS, computed_behaviour, is_behaviour, is_module)

MAX_PARTS = 8
LETTERS = "abcdef"
BUFFER = (0, 1)


def part_behaviour(value):
    """Return the behaviour of a module or a behaviour, or None if the value is neither."""
    if is_module(value):
        return computed_behaviour(value)
    return value if is_behaviour(value) else None


def input_pairs(behaviours):
    """Return the ascending list of the pairs of a part and one of its input ports."""
    return [(part, port) for part in behaviours for port in behaviours[part][0]]


def output_pairs(behaviours):
    """Return the ascending list of the pairs of a part and one of its output ports."""
    return [(part, port) for part in behaviours for port in behaviours[part][1]]


def is_source(known, value):
    """Return whether the value is a source; `known` is a dict that has all of them."""
    if type(value) is tuple:
        return len(value) == 2 and type(value[0]) is str and type(value[1]) is str and value in known
    return type(value) is str and value in known


def have_sources(known, keys, value):
    """Return whether the value is a dict from exactly these keys to sources."""
    if type(value) is not dict or len(value) != len(keys):
        return False
    for key in keys:
        if key not in value or not is_source(known, value[key]):
            return False
    return True


def are_named(value, most):
    """Return whether the value is a dict from names, one or more and at most so many."""
    return type(value) is dict and 1 <= len(value) <= most and not [name for name in value if not is_name(name)]


def made_behaviours(parts):
    """Return a dict with the behaviours of the parts, ascending, or raise InvalidNet if it is no dict of parts."""
    if not are_named(parts, MAX_PARTS):
        raise InvalidNet("not a dict of one to eight parts")
    behaviours = {name: part_behaviour(parts[name]) for name in sorted(parts)}
    if None in list(behaviours.values()):
        raise InvalidNet("a part is neither a module nor a behaviour")
    return behaviours


def next_values(plan, values, many):
    """Return the list of the values of the next round: those of so many inputs, and the answers of all parts."""
    found = values[:many]
    for slots, rows in plan:
        number = 0
        for slot in slots:
            number = 3 * number + values[slot]
        found.extend(rows[number])
    return found


def settled_values(plan, values, many):
    """Return the list of the values of the last round."""
    before = None
    while values != before:
        before = values
        values = next_values(plan, values, many)
    return values


def letters_of(values):
    """Return a dict from the values to the letters from `a` on."""
    return {value: letter for value, letter in zip(values, LETTERS)}


def all_names(circuit):
    """Return the list of the names of all inputs and then of all gates."""
    return list(circuit[0]) + [gate[0] for gate in circuit[1]]


def merged(first, second):
    """Return a dict with the keys of two dicts, ascending."""
    both = {**first, **second}
    return {key: both[key] for key in sorted(both)}


def require_different(first, second):
    """Raise Conflict with the first name in a dict that is in another one, too."""
    for name in first:
        if name in second:
            raise Conflict(name)


def are_different(values):
    """Return whether no two of the values are equal; they may be of any kind."""
    for at, value in enumerate(values):
        if value in values[:at]:
            return False
    return True


class Net:
    """Modules and behaviours under names, and what their input ports read; it never changes."""

    def __init__(self, inputs, parts, behaviours, wires, outputs):
        self._inputs = inputs
        self._parts = parts
        self._behaviours = behaviours
        self._wires = wires
        self._outputs = outputs
        self._pairs = output_pairs(behaviours)
        # All values are in one list: those of the inputs, and behind them those of the pairs.
        slots = {source: slot for slot, source in enumerate(list(inputs) + self._pairs)}
        self._plan = [
            ([slots[wires[(part, port)]] for port in behaviours[part][0]], behaviours[part][2]) for part in behaviours]
        self._shown = [slots[outputs[name]] for name in outputs]

    @classmethod
    def made(cls, inputs, parts, wires, outputs):
        """Return the net with these inputs, parts, wires and outputs."""
        if not is_name_tuple(inputs) or len(inputs) > MAX_PORTS:
            raise InvalidNet("not an ascending tuple of at most five names")
        behaviours = made_behaviours(parts)
        known = {source: True for source in list(inputs) + output_pairs(behaviours)}
        pairs = input_pairs(behaviours)
        if not have_sources(known, pairs, wires):
            raise InvalidNet("not a dict from exactly the input ports of the parts to sources")
        if not are_named(outputs, MAX_OUTPUTS) or not have_sources(known, list(outputs), outputs):
            raise InvalidNet("not a dict from one to six outputs to sources")
        own_parts = {name: parts[name] for name in behaviours}
        own_wires = {pair: wires[pair] for pair in pairs}
        return cls(inputs, own_parts, behaviours, own_wires, {name: outputs[name] for name in sorted(outputs)})

    @classmethod
    def single(cls, part):
        """Return the net of one module or behaviour, with its own ports."""
        behaviour = part_behaviour(part)
        if behaviour is None:
            raise InvalidModule("neither a module nor a behaviour")
        inputs, outputs, _ = behaviour
        wires = {("it", port): port for port in inputs}
        return cls(inputs, {"it": part}, {"it": behaviour}, wires, {port: ("it", port) for port in outputs})

    @property
    def inputs(self):
        """The ascending tuple of the inputs."""
        return self._inputs

    @property
    def parts(self):
        """The dict from names to modules and behaviours."""
        return {name: self._parts[name] for name in self._parts}

    @property
    def wires(self):
        """The dict from the pairs of a part and an input port to sources."""
        return {pair: self._wires[pair] for pair in self._wires}

    @property
    def outputs(self):
        """The dict from the outputs to sources."""
        return {name: self._outputs[name] for name in self._outputs}

    def __call__(self, row):
        """Return the tuple of the values of the outputs."""
        return self._answer(self._first_values(row))

    def values_at(self, row):
        """Return a dict from the pairs of a part and an output port to their values."""
        return self._by_pairs(settled_values(self._plan, self._first_values(row), len(self._inputs)))

    def passes(self, row):
        """Yield the dicts of all rounds, from round 0 to the last one that differs from the one before it."""
        values = self._first_values(row)
        before = None
        while values != before:
            yield self._by_pairs(values)
            before = values
            values = next_values(self._plan, values, len(self._inputs))

    def behaviour(self):
        """Return the behaviour of the net."""
        many = len(self._inputs)
        unknown = [UNKNOWN] * len(self._pairs)
        rows = [self._answer(list(ternary_row(number, many)) + unknown) for number in range(ROW_COUNTS[many])]
        return (self._inputs, tuple(self._outputs), tuple(rows))

    def flattened(self):
        """Return a module with the behaviour of the net: the circuit of all parts, which must be modules."""
        parts = self._parts
        for name in parts:
            if not is_module(parts[name]):
                raise InvalidOperation("a part is not a module")
        many = sum([len(part[0][0]) + len(part[0][1]) for part in list(parts.values())])
        if many > MAX_GATES:
            raise TooMany(MAX_GATES)
        # Each input port becomes a buffer, and each gate has a new name; all of them are found by part and old name.
        olds = [(part, old) for part in parts for old in all_names(parts[part][0])]
        news = fresh_names(many, {source: True for source in self._inputs})
        fresh = {old: new for old, new in zip(olds, news)}
        sources = {name: name for name in self._inputs}
        for name in parts:
            sources.update({(name, port): fresh[(name, old)] for port, old in parts[name][1]})
        gates = []
        for name in parts:
            inputs, own = parts[name][0]
            gates.extend([(fresh[(name, port)], (sources[self._wires[(name, port)]],), BUFFER) for port in inputs])
            for gate, read, table in own:
                gates.append((fresh[(name, gate)], tuple([fresh[(name, old)] for old in read]), table))
        outputs = tuple([(name, sources[self._outputs[name]]) for name in self._outputs])
        return ((self._inputs, tuple(gates)), outputs)

    def grouped(self, names, name):
        """Return the net in which the parts with these names are replaced by one part, a behaviour."""
        self._check_group(names, name)
        group = {part: self._parts[part] for part in self._parts if part in names}
        inner = {part: self._behaviours[part] for part in group}
        stay = [part for part in self._parts if part not in group]
        own = {pair: True for pair in output_pairs(inner)}
        read = {self._wires[pair]: True for pair in self._wires if pair[0] in group}
        feeds = [source for source in list(self._inputs) + self._pairs if source in read and source not in own]
        seen = {self._wires[pair]: True for pair in self._wires if pair[0] not in group}
        seen.update({source: True for source in list(self._outputs.values())})
        shown = [pair for pair in own if pair in seen]
        if not shown:
            raise InvalidOperation("nothing of these parts is read outside")
        if len(feeds) > MAX_PORTS:
            raise TooMany(MAX_PORTS)
        if len(shown) > MAX_OUTPUTS:
            raise TooMany(MAX_OUTPUTS)
        ports = letters_of(feeds)
        wires = {pair: ports.get(self._wires[pair], self._wires[pair]) for pair in self._wires if pair[0] in group}
        exits = letters_of(shown)
        whole = Net(tuple(ports.values()), group, inner, wires, {exits[pair]: pair for pair in shown}).behaviour()
        return self._regrouped(stay, name, whole, ports, {pair: (name, exits[pair]) for pair in shown})

    def replaced(self, part, value):
        """Return the net with another module or behaviour with the same ports in the place of a part."""
        if part not in self:
            raise UnknownName(part)
        behaviour = part_behaviour(value)
        if behaviour is None:
            raise InvalidModule("neither a module nor a behaviour")
        if behaviour[:2] != self._behaviours[part][:2]:
            raise InvalidOperation("the ports differ")
        parts = {**self._parts, part: value}
        return Net(self._inputs, parts, {**self._behaviours, part: behaviour}, self._wires, self._outputs)

    def _first_values(self, row):
        """Return the list of the values of round 0."""
        if not is_row(row) or len(row) != len(self._inputs):
            raise InvalidRow("not a row with a value for each input")
        return list(row) + [UNKNOWN] * len(self._pairs)

    def _answer(self, first):
        """Return the tuple of the values of the outputs, for the values of round 0."""
        values = settled_values(self._plan, first, len(self._inputs))
        return tuple([values[slot] for slot in self._shown])

    def _by_pairs(self, values):
        """Return a dict from the pairs of a part and an output port to their values, which stand in a list of all."""
        return {pair: value for pair, value in zip(self._pairs, values[len(self._inputs):])}

    def _check_group(self, names, name):
        """Raise the errors for names of parts that cannot be replaced by a part with this name."""
        if type(names) is not tuple or not names or not are_different(names):
            raise InvalidOperation("not a tuple of one or more different values")
        for part in names:
            if part not in self:
                raise UnknownName(part)
        if not is_name(name):
            raise InvalidOperation("not a name")
        if name in self._parts and name not in names:
            raise Conflict(name)

    def _regrouped(self, stay, name, whole, ports, moved):
        """Return the net of the parts that stay and a behaviour with this name.

        `ports` has the ports of the behaviour for what it reads, and `moved`
        its pairs for the pairs that are read outside.
        """
        parts = merged({part: self._parts[part] for part in stay}, {name: whole})
        behaviours = merged({part: self._behaviours[part] for part in stay}, {name: whole})
        old = {pair: self._wires[pair] for pair in self._wires if pair[0] in stay}
        wires = {pair: moved.get(old[pair], old[pair]) for pair in old}
        outputs = {key: moved.get(source, source) for key, source in self._outputs.items()}
        return Net(self._inputs, parts, behaviours, merged(wires, {(name, ports[key]): key for key in ports}), outputs)

    def __add__(self, other):
        if not isinstance(other, Net):
            raise InvalidNet("not a net")
        require_different(self._parts, other._parts)
        require_different(self._outputs, other._outputs)
        inputs = tuple(sorted(set(self._inputs + other._inputs)))
        if len(inputs) > MAX_PORTS:
            raise TooMany(MAX_PORTS)
        parts = merged(self._parts, other._parts)
        if len(parts) > MAX_PARTS:
            raise TooMany(MAX_PARTS)
        outputs = merged(self._outputs, other._outputs)
        if len(outputs) > MAX_OUTPUTS:
            raise TooMany(MAX_OUTPUTS)
        behaviours = merged(self._behaviours, other._behaviours)
        return Net(inputs, parts, behaviours, merged(self._wires, other._wires), outputs)

    def __contains__(self, value):
        return type(value) is str and value in self._parts

    def __len__(self):
        return len(self._parts)

    def __eq__(self, other):
        if not isinstance(other, Net):
            return False
        if self._inputs != other._inputs or self._parts != other._parts:
            return False
        return self._wires == other._wires and self._outputs == other._outputs

    def __str__(self):
        return f"net of {len(self._parts)} parts, {len(self._inputs)} inputs, {len(self._outputs)} outputs"
