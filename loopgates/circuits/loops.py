"""Loops of circuits: parts, levels and shortest loops."""

from heapq import heapify, heappop, heappush

from loopgates.circuits.circuits import gate_map, require_circuit, require_gate
from loopgates.circuits.wires import chain_end
from loopgates.errors import InvalidOperation


def read_numbers(circuit):
    """Return a list with, for each gate, the list of the numbers of the gates that it reads."""
    gates = circuit[1]
    numbers = {gate[0]: at for at, gate in enumerate(gates)}
    return [[numbers[source] for source in sources if source in numbers] for _, sources, _ in gates]


def mutual_groups(reads):
    """Return the list of the parts as lists of the numbers of gates, each part after all that it reads."""
    # This is Tarjan's way to find strongly connected sets, with a path in the place of recursion.
    visits = [0] * len(reads)
    earliest = [0] * len(reads)
    waiting = [len(sources) for sources in reads]
    unplaced = []
    groups = []
    count = 0
    for root in range(len(reads)):
        path = [] if visits[root] else [root]
        while path:
            at = path[-1]
            if not visits[at]:
                count += 1
                visits[at] = earliest[at] = count
                unplaced.append(at)
            if waiting[at]:
                waiting[at] -= 1
                other = reads[at][waiting[at]]
                if not visits[other]:
                    path.append(other)
                elif visits[other] < earliest[at]:
                    earliest[at] = visits[other]
                continue
            path.pop()
            if earliest[at] == visits[at]:
                cut = unplaced.index(at)
                group = unplaced[cut:]
                del unplaced[cut:]
                groups.append(group)
                for member in group:
                    # Nothing is earlier than a gate that is placed, so its readers do not go with it.
                    visits[member] = len(reads) + 1
            elif earliest[at] < earliest[path[-1]]:
                earliest[path[-1]] = earliest[at]
    return groups


def ordered_groups(reads):
    """Return the parts as ascending lists, in the order of `parts`."""
    groups = sorted([sorted(group) for group in mutual_groups(reads)])
    group_of = [0] * len(reads)
    for number, group in enumerate(groups):
        for member in group:
            group_of[member] = number
    missing = [0] * len(groups)
    reading = [[] for _ in groups]
    for at, sources in enumerate(reads):
        for source in sources:
            if group_of[source] != group_of[at]:
                missing[group_of[at]] += 1
                reading[group_of[source]].append(group_of[at])
    ready = [number for number, many in enumerate(missing) if not many]
    heapify(ready)
    ordered = []
    while ready:
        number = heappop(ready)
        ordered.append(groups[number])
        for reader in reading[number]:
            missing[reader] -= 1
            if not missing[reader]:
                heappush(ready, reader)
    return ordered


def is_looping(reads, group):
    """Return whether the gates of a part read themselves, directly or not."""
    return len(group) > 1 or group[0] in reads[group[0]]


def looping_numbers(reads):
    """Return the ascending list of the numbers of the gates that read themselves, directly or not."""
    return sorted([at for group in mutual_groups(reads) if is_looping(reads, group) for at in group])


def looping_gates(circuit):
    """Return the gates of what is known to be a circuit that read themselves, directly or not."""
    gates = circuit[1]
    return tuple([gates[at][0] for at in looping_numbers(read_numbers(circuit))])


def parts(circuit):
    """Return the parts, each one after all parts that it reads."""
    require_circuit(circuit)
    gates = circuit[1]
    return tuple([tuple([gates[at][0] for at in group]) for group in ordered_groups(read_numbers(circuit))])


def loop_gates(circuit):
    """Return the ascending tuple of the gates that read themselves, directly or not."""
    require_circuit(circuit)
    return looping_gates(circuit)


def is_loop_free(circuit):
    """Return whether no gate reads itself, directly or not."""
    require_circuit(circuit)
    return not looping_gates(circuit)


def levels(circuit):
    """Return a dict from each gate to 1 plus the greatest level of its sources."""
    require_circuit(circuit)
    reads = read_numbers(circuit)
    found = [0] * len(reads)
    for group in mutual_groups(reads):
        if is_looping(reads, group):
            raise InvalidOperation("the circuit has loops")
        at = group[0]
        found[at] = 1 + max([found[other] for other in reads[at]], default=0)
    return {gate[0]: level for gate, level in zip(circuit[1], found)}


def shortest_loop(circuit, gate):
    """Return a loop of the gate with the fewest wires, or None."""
    require_circuit(circuit)
    require_gate(circuit, gate)
    sources_by = {name: sources for name, sources, _ in circuit[1]}
    # The gates in the order in which they are met, and for each of them one that reads it.
    met = [gate]
    reader_of = {}
    at = 0
    while at < len(met) and gate not in reader_of:
        name = met[at]
        at += 1
        for source in sources_by[name]:
            if source not in reader_of and source in sources_by:
                reader_of[source] = name
                met.append(source)
    return way_back(sources_by, reader_of, gate) if gate in reader_of else None


def way_back(sources_by, reader_of, gate):
    """Return the tuple of the wires that lead from a gate back to it, by a reader of each gate."""
    name = reader_of[gate]
    way = [(name, sources_by[name].index(gate))]
    while name != gate:
        source = name
        name = reader_of[source]
        way.append((name, sources_by[name].index(source)))
    way.reverse()
    return tuple(way)


def is_loop_of(circuit, gate, value):
    """Return whether the value is a loop of the gate."""
    require_circuit(circuit)
    require_gate(circuit, gate)
    # The wire before the first one belongs to the last gate, so the end of the chain is its beginning.
    return chain_end(gate_map(circuit), value) == gate and value[0][0] == gate
