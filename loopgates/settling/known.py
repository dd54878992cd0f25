"""Known values of circuits: the least that settings force."""

from loopgates.base.names import UNKNOWN
from loopgates.base.tables import forced_bit
from loopgates.circuits.circuits import require_circuit, require_gate
from loopgates.circuits.settings import require_partial


def reading_gates(circuit):
    """Return a dict from inputs and gates to lists of the positions of the gates that read them."""
    inputs, gates = circuit
    reading = {name: [] for name in inputs}
    for name, _, _ in gates:
        reading[name] = []
    for at, gate in enumerate(gates):
        for source in gate[1]:
            reading[source].append(at)
    return reading


def first_values(circuit, setting):
    """Return a dict from the inputs to their values and from all gates to 2."""
    inputs, gates = circuit
    values = {name: setting[name] for name in inputs}
    for name, _, _ in gates:
        values[name] = UNKNOWN
    return values


def forced_by(gate, values):
    """Return the bit of a gate that the values of its sources force, or 2."""
    _, sources, table = gate
    return forced_bit(table, [values[source] for source in sources])


def rounds_of(circuit, setting):
    """Return the list with, for each rank from 1, the dict from the gates of this rank to their bits."""
    gates = circuit[1]
    reading = reading_gates(circuit)
    values = first_values(circuit, setting)
    rounds = []
    asked = list(range(len(gates)))
    while asked:
        found = {}
        for at in asked:
            bit = forced_by(gates[at], values)
            if bit != UNKNOWN:
                found[gates[at][0]] = bit
        values.update(found)
        if found:
            rounds.append(found)
        # Only gates that read a gate of this rank can have the next one.
        asked = sorted({reader for name in found for reader in reading[name] if values[gates[reader][0]] == UNKNOWN})
    return rounds


def all_values(circuit, setting):
    """Return a dict from all inputs to their values and from all gates to their known values."""
    values = first_values(circuit, setting)
    for found in rounds_of(circuit, setting):
        values.update(found)
    return values


def gate_values(circuit, setting):
    """Return a dict from the gates to their known values."""
    values = all_values(circuit, setting)
    return {name: values[name] for name, _, _ in circuit[1]}


def known_values(circuit, setting):
    """Return a dict from all gates to their known values."""
    require_circuit(circuit)
    require_partial(circuit, setting)
    return gate_values(circuit, setting)


def known_value(circuit, setting, gate):
    """Return the known value of a gate."""
    require_circuit(circuit)
    require_partial(circuit, setting)
    require_gate(circuit, gate)
    return gate_values(circuit, setting)[gate]


def ranks(circuit, setting):
    """Return a dict from the derived gates to their ranks."""
    require_circuit(circuit)
    require_partial(circuit, setting)
    found = {}
    for rank, bits in enumerate(rounds_of(circuit, setting), start=1):
        for name in bits:
            found[name] = rank
    return {name: found[name] for name in sorted(list(found))}


def derived_rounds(circuit, setting):
    """Yield, for the ranks 1, 2, .., the dict from the gates of this rank to their bits."""
    require_circuit(circuit)
    require_partial(circuit, setting)
    for found in rounds_of(circuit, setting):
        yield found


def settles_all(circuit, setting):
    """Return whether all gates are derived."""
    require_circuit(circuit)
    require_partial(circuit, setting)
    return UNKNOWN not in list(gate_values(circuit, setting).values())
