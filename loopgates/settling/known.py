"""Known values of circuits: the least that settings force."""

from loopgates.base.masks import WIRE_MASKS, table_number
from loopgates.base.names import UNKNOWN
from loopgates.base.tables import forced_bit
from loopgates.circuits.circuits import require_circuit, require_gate
from loopgates.circuits.settings import require_partial

# So few gates are swept until nothing changes.
SOME_GATES = 8


def wires_by_source(circuit):
    """Return a dict from inputs and gates to lists of pairs for the wires that read them.

    Each pair is the number of a gate and the two masks of its table where
    the wire has the bit 0, and where it has the bit 1.
    """
    inputs, gates = circuit
    reading = {name: [] for name in inputs}
    reading.update({gate[0]: [] for gate in gates})
    for at, (_, sources, _) in enumerate(gates):
        for source, masks in zip(sources, WIRE_MASKS[len(sources)]):
            reading[source].append((at, masks))
    return reading


def first_values(circuit, setting):
    """Return a dict from the inputs to their values and from all gates to 2."""
    values = {**setting}
    for gate in circuit[1]:
        values[gate[0]] = UNKNOWN
    return values


def solve(circuit, setting):
    """Return a dict of the values of all inputs and gates, and the list of the lists of the gates of each rank."""
    gates = circuit[1]
    values = first_values(circuit, setting)
    fresh = [name for name in circuit[0] if values[name] != UNKNOWN]
    found = []
    for name, _, table in gates:
        if 0 not in table or 1 not in table:
            values[name] = table[0]
            found.append(name)
    reading = wires_by_source(circuit) if fresh or found else {}
    # For the gates that read something known: their tables, and the results that are still possible.
    numbers = {}
    possible = {}
    rounds = []
    while fresh or found:
        touched = []
        for name in fresh:
            bit = values[name]
            for at, masks in reading[name]:
                possible[at] = possible[at] & masks[bit] if at in possible else masks[bit]
                touched.append(at)
        for at in touched:
            name, _, table = gates[at]
            if values[name] == UNKNOWN:
                if at not in numbers:
                    numbers[at] = table_number(table)
                ones = numbers[at] & possible[at]
                if not ones or ones == possible[at]:
                    values[name] = 1 if ones else 0
                    found.append(name)
        if found:
            rounds.append(found)
        fresh = found
        found = []
    return values, rounds


def rounds_of(circuit, setting):
    """Return the list with, for each rank from 1, the dict from the gates of this rank to their bits."""
    values, rounds = solve(circuit, setting)
    return [{name: values[name] for name in sorted(found)} for found in rounds]


def swept(gates, values):
    """Give bits to the gates that are forced, one after the other, and return the other ones, the last one first."""
    others = []
    for gate in gates:
        name, sources, table = gate
        bit = forced_bit(table, [values[source] for source in sources])
        if bit == UNKNOWN:
            others.append(gate)
        else:
            values[name] = bit
    others.reverse()
    return others


def all_values(circuit, setting):
    """Return a dict from all inputs to their values and from all gates to their known values."""
    values = first_values(circuit, setting)
    waiting = circuit[1]
    many = len(waiting) + 1
    sweeps = 0
    # Few sweeps, in turns, are mostly enough, and then they are faster than to note all wires first.
    while waiting and len(waiting) < many:
        if sweeps > 1 and len(waiting) > SOME_GATES and 4 * len(waiting) > 3 * many:
            return solve(circuit, setting)[0]
        many = len(waiting)
        waiting = swept(waiting, values)
        sweeps += 1
    return values


def gate_values(circuit, setting):
    """Return a dict from the gates to their known values."""
    values = all_values(circuit, setting)
    return {name: values[name] for name, _, _ in circuit[1]}


def known_values(circuit, setting):
    """Return a dict from all gates to their known values."""
    require_circuit(circuit)
    require_partial(circuit, setting)
    return gate_values(circuit, setting)


def known_value(circuit, setting, gate):
    """Return the known value of a gate."""
    require_circuit(circuit)
    require_partial(circuit, setting)
    require_gate(circuit, gate)
    return all_values(circuit, setting)[gate]


def ranks(circuit, setting):
    """Return a dict from the derived gates to their ranks."""
    require_circuit(circuit)
    require_partial(circuit, setting)
    found = {}
    for rank, names in enumerate(solve(circuit, setting)[1], start=1):
        for name in names:
            found[name] = rank
    return {name: found[name] for name in sorted(found)}


def derived_rounds(circuit, setting):
    """Yield, for the ranks 1, 2, .., the dict from the gates of this rank to their bits."""
    require_circuit(circuit)
    require_partial(circuit, setting)
    for found in rounds_of(circuit, setting):
        yield found


def settles_all(circuit, setting):
    """Return whether all gates are derived."""
    require_circuit(circuit)
    require_partial(circuit, setting)
    return UNKNOWN not in list(gate_values(circuit, setting).values())
