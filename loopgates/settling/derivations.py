"""Derivations: known values shown line by line."""

from loopgates.base.names import UNKNOWN, is_ascending, is_bit, is_integer
from loopgates.base.tables import forced_bit
from loopgates.circuits.circuits import gate_map, require_circuit, require_gate
from loopgates.circuits.settings import require_partial
from loopgates.errors import InvalidValues
from loopgates.settling.known import rounds_of, solve

# For each number of wires, all ascending tuples of them, by their length and then ascending.
WIRE_SETS = (
    ((),),
    ((), (0,)),
    ((), (0,), (1,), (0, 1)),
    ((), (0,), (1,), (2,), (0, 1), (0, 2), (1, 2), (0, 1, 2)),
    (
        (), (0,), (1,), (2,), (3,), (0, 1), (0, 2), (0, 3), (1, 2), (1, 3), (2, 3),
        (0, 1, 2), (0, 1, 3), (0, 2, 3), (1, 2, 3), (0, 1, 2, 3),
    ),
)

def input_bits(circuit, setting):
    """Return a dict from the inputs that are not unknown to their bits."""
    return {name: setting[name] for name in circuit[0] if setting[name] != UNKNOWN}


def forced_at(table, sources, bits, wires):
    """Return the bit that the bits of the sources force at the named wires, or 2."""
    return forced_bit(table, [bits[source] if wire in wires else UNKNOWN for wire, source in enumerate(sources)])


def fewest_wires(sources, table, bits):
    """Return the fewest wires at which the bits force any bit, and of several such tuples the least one."""
    known = [source in bits for source in sources]
    for wires in WIRE_SETS[len(sources)]:
        if False not in [known[wire] for wire in wires] and forced_at(table, sources, bits, wires) != UNKNOWN:
            return wires
    return None


def lines_by_rank(circuit, setting):
    """Return the list of the shortest lines of all derived gates, by rank and then by name."""
    gates = gate_map(circuit)
    earlier = input_bits(circuit, setting)
    lines = []
    for found in rounds_of(circuit, setting):
        for name in found:
            sources, table = gates[name]
            lines.append((name, found[name], fewest_wires(sources, table, earlier)))
        earlier.update(found)
    return lines


def last_needed(circuit, lines):
    """Return the tuple of the lines that the last one needs, in their order."""
    gates = gate_map(circuit)
    wanted = {lines[-1][0]: True}
    kept = []
    for line in lines[::-1]:
        name, _, wires = line
        if name in wanted:
            kept.append(line)
            for wire in wires:
                wanted[gates[name][0][wire]] = True
    return tuple(kept[::-1])


def found_derivation(circuit, setting, gate):
    """Return a derivation of the gate, or None."""
    values, rounds = solve(circuit, setting)
    if values[gate] == UNKNOWN:
        return None
    rank_of = {name: 0 for name in circuit[0] if values[name] != UNKNOWN}
    for rank, found in enumerate(rounds, start=1):
        rank_of.update({name: rank for name in found})
    gates = gate_map(circuit)
    named = {}
    waiting = [gate]
    while waiting:
        name = waiting.pop()
        if name in gates and name not in named:
            sources, table = gates[name]
            lesser = [source for source in sources if source in rank_of and rank_of[source] < rank_of[name]]
            earlier = {source: values[source] for source in lesser}
            named[name] = fewest_wires(sources, table, earlier)
            waiting.extend([sources[wire] for wire in named[name]])
    ordered = sorted([(rank_of[key], key) for key in named])
    return tuple([(key, values[key], named[key]) for _, key in ordered])


def is_right_line(gates, bits, line):
    """Return whether it is a line of a gate that has no bit yet, and the bits force its own one."""
    if not isinstance(line, tuple) or len(line) != 3:
        return False
    name, bit, wires = line
    if not isinstance(name, str) or name not in gates or name in bits or not is_bit(bit):
        return False
    sources, table = gates[name]
    if not are_wires(wires, len(sources)):
        return False
    for wire in wires:
        if sources[wire] not in bits:
            return False
    return forced_at(table, sources, bits, wires) == bit


def are_wires(value, many):
    """Return whether the value is an ascending tuple of integers from 0 to less than `many`."""
    if not isinstance(value, tuple):
        return False
    for wire in value:
        if not is_integer(wire) or not 0 <= wire < many:
            return False
    return is_ascending(value)


def are_right_lines(circuit, setting, value):
    """Return whether the value is a derivation, of any gate."""
    if not isinstance(value, tuple) or not value:
        return False
    gates = gate_map(circuit)
    bits = input_bits(circuit, setting)
    for line in value:
        if not is_right_line(gates, bits, line):
            return False
        bits[line[0]] = line[1]
    return True


def derives(circuit, setting, gate, value):
    """Return whether the value is a derivation of the gate."""
    return are_right_lines(circuit, setting, value) and value[-1][0] == gate


def derivation(circuit, setting, gate):
    """Return a derivation of the gate, or None if it is not derived."""
    require_circuit(circuit)
    require_partial(circuit, setting)
    require_gate(circuit, gate)
    return found_derivation(circuit, setting, gate)


def is_derivation(circuit, setting, gate, value):
    """Return whether the value is a derivation of the gate."""
    require_circuit(circuit)
    require_partial(circuit, setting)
    require_gate(circuit, gate)
    return derives(circuit, setting, gate, value)


def derive_all(circuit, setting):
    """Return a derivation with a line for each derived gate, by rank and then by name, or ()."""
    require_circuit(circuit)
    require_partial(circuit, setting)
    return tuple(lines_by_rank(circuit, setting))


def needed_lines(circuit, setting, lines):
    """Return the derivation without the lines that its last one does not need."""
    require_circuit(circuit)
    require_partial(circuit, setting)
    if not are_right_lines(circuit, setting, lines):
        raise InvalidValues("not a derivation")
    return last_needed(circuit, lines)
