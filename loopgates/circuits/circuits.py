"""Circuits: made, asked and changed."""

from loopgates.base.names import MAX_LETTERS, are_lowercase, is_bit, is_name
from loopgates.base.tables import MAX_WIRES, built_table, has_word_table, is_word
from loopgates.errors import Conflict, InvalidCircuit, InvalidNumber, InvalidOperation, TooMany, UnknownName

MAX_INPUTS = 12
MAX_GATES = 200
# The lengths of tables by their numbers of wires.
SIZES = (1, 2, 4, 8, 16)


def is_circuit(value):
    """Return whether the value is a circuit."""
    if type(value) is not tuple or len(value) != 2:
        return False
    inputs, gates = value
    if type(inputs) is not tuple or type(gates) is not tuple or len(inputs) > MAX_INPUTS or len(gates) > MAX_GATES:
        return False
    names = []
    before = ""
    for name in inputs:
        if type(name) is not str or name <= before or len(name) > MAX_LETTERS:
            return False
        names.append(name)
        before = name
    before = ""
    read = []
    # No calls in this loop: most functions look at all gates each time that they are called.
    for gate in gates:
        if type(gate) is not tuple or len(gate) != 3:
            return False
        name, sources, table = gate
        if type(name) is not str or name <= before or len(name) > MAX_LETTERS:
            return False
        if type(sources) is not tuple or type(table) is not tuple:
            return False
        if len(sources) > MAX_WIRES or len(table) != SIZES[len(sources)]:
            return False
        for bit in table:
            if type(bit) is not int or bit and bit != 1:
                return False
        names.append(name)
        read.extend(sources)
        before = name
    return are_lowercase(names) and are_linked(names, read)


def are_linked(names, sources):
    """Return whether all names are different, and all sources are among them."""
    known = set(names)
    if len(known) != len(names):
        return False
    for source in sources:
        if type(source) is not str or source not in known:
            return False
    return True


def require_circuit(circuit):
    """Raise InvalidCircuit if it is not a circuit."""
    if not is_circuit(circuit):
        raise InvalidCircuit("not a circuit")


def names_of_gates(circuit):
    """Return the tuple of the names of the gates of what is known to be a circuit."""
    return tuple([name for name, _, _ in circuit[1]])


def gate_map(circuit):
    """Return a dict from the gates to the pairs of their sources and tables."""
    return {name: (sources, table) for name, sources, table in circuit[1]}


def require_gate(circuit, gate):
    """Raise UnknownName if it is not a gate of the circuit."""
    # The gate may be any value, also one without a hash.
    if type(gate) is not str or gate not in [name for name, _, _ in circuit[1]]:
        raise UnknownName(gate)


def require_name(circuit, name):
    """Raise UnknownName if it is neither an input nor a gate of the circuit."""
    if type(name) is not str or name not in circuit[0] and name not in [gate[0] for gate in circuit[1]]:
        raise UnknownName(name)


def make_circuit(*inputs, **gates):
    """Return the circuit with these inputs and a gate for each keyword."""
    return circuit_from(inputs, gates)


def circuit_from(inputs, gates):
    """Return the circuit with a tuple of inputs and a dict of gates."""
    if not isinstance(inputs, tuple) or not isinstance(gates, dict):
        raise InvalidCircuit("not a tuple of inputs and a dict of gates")
    for name in [*inputs, *list(gates)]:
        if not is_name(name):
            raise InvalidCircuit("not a name")
    made = [made_gate(name, gates[name]) for name in sorted(list(gates))]
    circuit = (tuple(sorted(inputs)), tuple(made))
    require_circuit(circuit)
    return circuit


def made_gate(name, parts):
    """Return the gate of a name, and of a table or a word with its sources behind it."""
    if not isinstance(parts, tuple) or not parts:
        raise InvalidCircuit("a gate is not a tuple of a table or a word, and sources")
    table, *sources = parts
    if is_word(table):
        if not has_word_table(table, len(sources)):
            raise InvalidCircuit("a word has no table with as many wires as there are sources")
        table = built_table(table, len(sources))
    return (name, tuple(sources), table)


def gate_names(circuit):
    """Return the ascending tuple of the names of the gates."""
    require_circuit(circuit)
    return names_of_gates(circuit)


def sources_of(circuit, gate):
    """Return the tuple of the sources of a gate."""
    require_circuit(circuit)
    require_gate(circuit, gate)
    return gate_map(circuit)[gate][0]


def table_of(circuit, gate):
    """Return the table of a gate."""
    require_circuit(circuit)
    require_gate(circuit, gate)
    return gate_map(circuit)[gate][1]


def readers(circuit, name):
    """Return the ascending tuple of the wires with this source."""
    require_circuit(circuit)
    require_name(circuit, name)
    found = []
    for gate, sources, _ in circuit[1]:
        for wire, source in enumerate(sources):
            if source == name:
                found.append((gate, wire))
    return tuple(found)


def require_keys(circuit, changes):
    """Raise the errors for what is no dict, or has keys that are no inputs and gates."""
    if not isinstance(changes, dict):
        raise InvalidOperation("not a dict")
    for key in changes:
        require_name(circuit, key)


def renamed(circuit, **names):
    """Return the circuit in which inputs and gates have new names."""
    return renamed_by(circuit, names)


def renamed_by(circuit, names):
    """Return the circuit in which inputs and gates have the new names of a dict."""
    require_circuit(circuit)
    require_keys(circuit, names)
    for name in list(names.values()):
        if not is_name(name):
            raise InvalidOperation("a new name is not a name")
    inputs, gates = circuit
    fresh = {old: names.get(old, old) for old in inputs + names_of_gates(circuit)}
    require_different(list(fresh.values()))
    made = []
    for name, sources, table in gates:
        made.append((fresh[name], tuple([fresh[source] for source in sources]), table))
    return (tuple(sorted([fresh[name] for name in inputs])), tuple(sorted(made)))


def require_different(names):
    """Raise Conflict with the least name that occurs twice."""
    ordered = sorted(names)
    for name, later in zip(ordered, ordered[1:]):
        if name == later:
            raise Conflict(name)


def held(circuit, **bits):
    """Return the circuit in which inputs and gates have these bits."""
    return held_by(circuit, bits)


def held_by(circuit, bits):
    """Return the circuit in which inputs and gates have the bits of a dict."""
    require_circuit(circuit)
    require_keys(circuit, bits)
    for bit in list(bits.values()):
        if not is_bit(bit):
            raise InvalidNumber(bit)
    inputs, gates = circuit
    made = [gate for gate in gates if gate[0] not in bits] + [(name, (), (bits[name],)) for name in bits]
    if len(made) > MAX_GATES:
        raise TooMany(MAX_GATES)
    return (tuple([name for name in inputs if name not in bits]), tuple(sorted(made)))


def cone(circuit, *names):
    """Return the circuit of these inputs and gates and of all that they read."""
    return cone_of(circuit, names)


def cone_of(circuit, names):
    """Return the circuit of a tuple of inputs and gates and of all that they read."""
    require_circuit(circuit)
    if not isinstance(names, tuple):
        raise InvalidOperation("not a tuple of names")
    for name in names:
        require_name(circuit, name)
    return part_read(circuit, names)


def part_read(circuit, names):
    """Return the circuit of what are known to be inputs and gates, and of all that they read."""
    kept = all_read(circuit, names)
    inputs, gates = circuit
    return (tuple([name for name in inputs if name in kept]), tuple([gate for gate in gates if gate[0] in kept]))


def all_read(circuit, names):
    """Return a dict of True for these names and all inputs and gates that they read."""
    gates = gate_map(circuit)
    kept = {}
    waiting = list(names)
    while waiting:
        name = waiting.pop()
        if name not in kept:
            kept[name] = True
            if name in gates:
                waiting.extend(gates[name][0])
    return kept
