"""Search by states: those of rest, and those that last."""

from loopgates.base.masks import forced_masks, numbers_in, row_masks
from loopgates.circuits.circuits import require_circuit
from loopgates.circuits.loops import mutual_groups
from loopgates.circuits.settings import require_setting
from loopgates.errors import TooMany

MAX_REST_GATES = 12
MAX_LASTING_NODES = 8


def binary_row(number, length):
    """Return the row of so many bits that are the binary digits of the number."""
    return tuple([number >> (length - 1 - at) & 1 for at in range(length)])


def wish_masks(circuit, setting, pairs, full):
    """Return a dict from inputs and gates to the masks where they are 0 and 1, for the masks of the gates."""
    masks = {name: (0, full) if setting[name] else (full, 0) for name in circuit[0]}
    masks.update({gate[0]: pair for gate, pair in zip(circuit[1], pairs)})
    return masks


def rest_states(circuit, setting):
    """Yield all states in which nothing is excited, ascending."""
    require_circuit(circuit)
    require_setting(circuit, setting)
    gates = circuit[1]
    if len(gates) > MAX_REST_GATES:
        raise TooMany(MAX_REST_GATES)
    inputs = {**setting}
    # At rest all wires have the bits of their sources, so the bits of the gates are enough.
    for number in numbers_in(rest_mask(circuit, inputs)):
        bits = binary_row(number, len(gates))
        given = {**inputs, **{gate[0]: bit for gate, bit in zip(gates, bits)}}
        yield (bits, tuple([tuple([given[source] for source in sources]) for _, sources, _ in gates]))


def rest_mask(circuit, setting):
    """Return the mask of the rows of bits of the gates with which each gate has its wish."""
    pairs, full = row_masks(len(circuit[1]), 2)
    masks = wish_masks(circuit, setting, pairs, full)
    wrong = 0
    for name, sources, table in circuit[1]:
        ones = forced_masks(table, [masks[source] for source in sources], full)[1]
        wrong = wrong | ones ^ masks[name][1]
    return full ^ wrong


def excited_masks(circuit, setting, pairs, full):
    """Return the list with, for each gate and then for each wire, the mask of the states in which it is excited.

    The states are the rows of the bits of all gates and then of all wires.
    """
    gates = circuit[1]
    masks = wish_masks(circuit, setting, pairs[:len(gates)], full)
    own = []
    taken = []
    first = len(gates)
    for name, sources, table in gates:
        wires = pairs[first:first + len(sources)]
        own.append(masks[name][1] ^ forced_masks(table, wires, full)[1])
        taken.extend([masks[source][1] ^ wire[1] for source, wire in zip(sources, wires)])
        first += len(sources)
    return own + taken


def next_mask(number, many, excited):
    """Return the mask of the states to which steps lead from a state of so many nodes."""
    mask = 1 << number
    for at in range(many):
        weight = 1 << (many - 1 - at)
        if excited[at] >> number & 1:
            mask = mask | (mask >> weight if number & weight else mask << weight)
    return mask & ~(1 << number)


def is_fair_set(group, pairs, excited, following):
    """Return whether each node is not excited in one of the states, or moves in a step from one of them to another."""
    mask = sum([1 << number for number in group])
    for (low, high), uneasy in zip(pairs, excited):
        if not mask & ~uneasy:
            ways = [following[number] & mask & (low if high >> number & 1 else high) for number in group]
            if not sum(ways):
                return False
    return True


def lasting_numbers(circuit, setting, many):
    """Return the ascending list of the numbers of the states that last, with so many nodes."""
    pairs, full = row_masks(many, 2)
    excited = excited_masks(circuit, setting, pairs, full)
    following = [next_mask(number, many, excited) for number in range(1 << many)]
    groups = mutual_groups([numbers_in(mask) for mask in following])
    return sorted([number for group in groups if is_fair_set(group, pairs, excited, following) for number in group])


def lasting_list(circuit, setting):
    """Return the ascending list of the states that last; raise TooMany if there are too many nodes."""
    gates = circuit[1]
    many = len(gates) + sum([len(sources) for _, sources, _ in gates])
    if many > MAX_LASTING_NODES:
        raise TooMany(MAX_LASTING_NODES)
    states = []
    for number in lasting_numbers(circuit, setting, many):
        bits = binary_row(number, many)
        first = len(gates)
        taken = []
        for _, sources, _ in gates:
            taken.append(bits[first:first + len(sources)])
            first += len(sources)
        states.append((bits[:len(gates)], tuple(taken)))
    return states


def lasting_states(circuit, setting):
    """Return the ascending tuple of all states that last."""
    require_circuit(circuit)
    require_setting(circuit, setting)
    return tuple(lasting_list(circuit, setting))


def lasting_bits(circuit, setting):
    """Return a dict from each gate to the ascending tuple of the bits that it has in the states that last."""
    require_circuit(circuit)
    require_setting(circuit, setting)
    states = lasting_list(circuit, setting)
    return {gate[0]: tuple(sorted({state[0][at] for state in states})) for at, gate in enumerate(circuit[1])}
