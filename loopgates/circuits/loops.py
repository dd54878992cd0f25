"""Loops of circuits: parts, levels and shortest loops."""

from loopgates.circuits.circuits import gate_map, names_of_gates, require_circuit, require_gate
from loopgates.circuits.wires import chain_end
from loopgates.errors import InvalidOperation


def mask_of(numbers):
    """Return the sum of 2 ** k over the different numbers k."""
    return sum([1 << number for number in numbers])


def has_number(mask, number):
    """Return whether 2 ** number is in the sum."""
    return (mask >> number) & 1 == 1


def reached_masks(circuit):
    """Return a list with, for each gate, the sum of 2 ** k over all gates k that it reads, directly or not."""
    gates = circuit[1]
    numbers = {name: at for at, name in enumerate(names_of_gates(circuit))}
    masks = []
    for _, sources, _ in gates:
        read = sorted({numbers[source] for source in sources if source in numbers})
        masks.append(mask_of(read))
    # After the turn of a middle gate all ways are known that pass only gates up to it.
    for middle in range(len(gates)):
        bit = 1 << middle
        further = masks[middle]
        masks = [mask | further if mask & bit else mask for mask in masks]
    return masks


def mutual_groups(masks):
    """Return the list of the parts as ascending lists of the numbers of gates."""
    groups = []
    placed = {}
    for first, mask in enumerate(masks):
        if first not in placed:
            group = [first]
            for other in range(first + 1, len(masks)):
                if has_number(mask, other) and has_number(masks[other], first):
                    group.append(other)
            for member in group:
                placed[member] = True
            groups.append(group)
    return groups


def ordered_groups(masks):
    """Return the parts, as `mutual_groups` does, but each of them after all that it reads."""
    waiting = mutual_groups(masks)
    ordered = []
    done = 0
    while waiting:
        at = first_ready(masks, waiting, done)
        group = waiting[at]
        del waiting[at]
        ordered.append(group)
        done = done | mask_of(group)
    return ordered


def first_ready(masks, groups, done):
    """Return the position of the first group that reads only itself and what is done."""
    at = 0
    while masks[groups[at][0]] & ~(done | mask_of(groups[at])):
        at += 1
    return at


def ordered_parts(circuit):
    """Return the parts of what is known to be a circuit."""
    names = names_of_gates(circuit)
    return tuple([tuple([names[at] for at in group]) for group in ordered_groups(reached_masks(circuit))])


def looping_gates(circuit):
    """Return the gates of what is known to be a circuit that read themselves, directly or not."""
    masks = reached_masks(circuit)
    return tuple([name for at, name in enumerate(names_of_gates(circuit)) if has_number(masks[at], at)])


def parts(circuit):
    """Return the parts, each one after all parts that it reads."""
    require_circuit(circuit)
    return ordered_parts(circuit)


def loop_gates(circuit):
    """Return the ascending tuple of the gates that read themselves, directly or not."""
    require_circuit(circuit)
    return looping_gates(circuit)


def is_loop_free(circuit):
    """Return whether no gate reads itself, directly or not."""
    require_circuit(circuit)
    return not looping_gates(circuit)


def levels(circuit):
    """Return a dict from each gate to 1 plus the greatest level of its sources."""
    require_circuit(circuit)
    if looping_gates(circuit):
        raise InvalidOperation("the circuit has loops")
    gates = gate_map(circuit)
    found = {name: 0 for name in circuit[0]}
    for part in ordered_parts(circuit):
        name = part[0]
        found[name] = 1 + max([found[source] for source in gates[name][0]], default=0)
    return {name: found[name] for name in gates}


def shortest_loop(circuit, gate):
    """Return a loop of the gate with the fewest wires, or None."""
    require_circuit(circuit)
    require_gate(circuit, gate)
    gates = gate_map(circuit)
    ways = {gate: ()}
    nearest = [gate]
    while nearest:
        further = []
        for name in nearest:
            for wire, source in enumerate(gates[name][0]):
                way = ways[name] + ((name, wire),)
                if source == gate:
                    return way
                if source in gates and source not in ways:
                    ways[source] = way
                    further.append(source)
        nearest = further
    return None


def is_loop_of(circuit, gate, value):
    """Return whether the value is a loop of the gate."""
    require_circuit(circuit)
    require_gate(circuit, gate)
    # The wire before the first one belongs to the last gate, so the end of the chain is its beginning.
    return chain_end(gate_map(circuit), value) == gate and value[0][0] == gate
