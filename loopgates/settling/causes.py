"""Steady values, causal paths, and papers for known values."""

from loopgates.base.masks import forced_masks, numbers_in, row_masks
from loopgates.base.names import UNKNOWN
from loopgates.base.rows import VALUES, ternary_row
from loopgates.base.tables import forced_bit
from loopgates.circuits.circuits import gate_map, require_circuit, require_gate
from loopgates.circuits.settings import gives_inputs, require_partial
from loopgates.circuits.wires import chain_end
from loopgates.errors import TooMany
from loopgates.settling.derivations import derives, found_derivation
from loopgates.settling.known import all_values, gate_values

MAX_STEADY_GATES = 8


def agrees(circuit, values):
    """Return whether each gate has the value that the values of its sources force."""
    for name, sources, table in circuit[1]:
        if forced_bit(table, [values[source] for source in sources]) != values[name]:
            return False
    return True


def is_steady_dict(circuit, setting, value):
    """Return whether the value is a dict of steady values."""
    names = [gate[0] for gate in circuit[1]]
    return gives_inputs(names, value, UNKNOWN) and agrees(circuit, {**setting, **value})


def is_steady(circuit, setting, value):
    """Return whether the value is a dict of steady values."""
    require_circuit(circuit)
    require_partial(circuit, setting)
    return is_steady_dict(circuit, setting, value)


def steady_masks(circuit, known, free):
    """Return the mask of the rows of values for some gates, the only unknown ones, with which all values are steady."""
    pairs, full = row_masks(len(free), len(VALUES))
    # What is known has its value in all rows.
    constant = ((full, 0), (0, full), (0, 0))
    masks = {name: constant[known[name]] for name in known}
    masks.update({name: pair for name, pair in zip(free, pairs)})
    wrong = 0
    for name, sources, table in circuit[1]:
        zeros, ones = forced_masks(table, [masks[source] for source in sources], full)
        wrong = wrong | zeros ^ masks[name][0] | ones ^ masks[name][1]
    return full ^ wrong


def steady_values(circuit, setting):
    """Yield all steady values, ascending by the tuples of their values."""
    require_circuit(circuit)
    require_partial(circuit, setting)
    if len(circuit[1]) > MAX_STEADY_GATES:
        raise TooMany(MAX_STEADY_GATES)
    known = all_values(circuit, setting)
    # All steady values have the known bits, so only the other gates have a choice.
    free = [gate[0] for gate in circuit[1] if known[gate[0]] == UNKNOWN]
    for number in numbers_in(steady_masks(circuit, known, free)):
        chosen = {name: value for name, value in zip(free, ternary_row(number, len(free)))}
        yield {gate[0]: chosen.get(gate[0], known[gate[0]]) for gate in circuit[1]}


def causal_path(circuit, setting, gate):
    """Return a causal path of the gate, or None if it is derived."""
    require_circuit(circuit)
    require_partial(circuit, setting)
    require_gate(circuit, gate)
    values = all_values(circuit, setting)
    if values[gate] != UNKNOWN:
        return None
    gates = gate_map(circuit)
    seen = {}
    path = []
    name = gate
    while name in gates and name not in seen:
        seen[name] = True
        sources = gates[name][0]
        # A gate that is not derived reads something unknown: a row of bits would force it.
        wire = [values[source] for source in sources].index(UNKNOWN)
        path.append((name, wire))
        name = sources[wire]
    return tuple(path)


def is_causal_path(circuit, setting, gate, value):
    """Return whether the value is a causal path of the gate."""
    require_circuit(circuit)
    require_partial(circuit, setting)
    require_gate(circuit, gate)
    gates = gate_map(circuit)
    end = chain_end(gates, value)
    if end is None or value[0][0] != gate:
        return False
    values = all_values(circuit, setting)
    passed = [name for name, _ in value]
    for name in passed:
        if values[name] != UNKNOWN:
            return False
    return end in passed or (end not in gates and values[end] == UNKNOWN)


def value_paper(circuit, setting, gate):
    """Return a value paper of the gate."""
    require_circuit(circuit)
    require_partial(circuit, setting)
    require_gate(circuit, gate)
    lines = found_derivation(circuit, setting, gate)
    if lines is None:
        return ("steady", gate_values(circuit, setting))
    return ("derived", lines)


def is_value_paper(circuit, setting, gate, value):
    """Return whether the value is a value paper of the gate."""
    require_circuit(circuit)
    require_partial(circuit, setting)
    require_gate(circuit, gate)
    if not isinstance(value, tuple) or len(value) != 2:
        return False
    kind, shown = value
    if kind == "derived":
        return derives(circuit, setting, gate, shown)
    return kind == "steady" and is_steady_dict(circuit, setting, shown) and shown[gate] == UNKNOWN
