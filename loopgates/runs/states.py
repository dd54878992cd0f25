"""States of circuits, the wishes of their nodes, and steps."""

from loopgates.base.names import is_bit, is_bit_row
from loopgates.base.tables import result_at
from loopgates.circuits.circuits import require_circuit
from loopgates.circuits.settings import require_setting
from loopgates.circuits.wires import is_node_pair
from loopgates.errors import InvalidNumber, InvalidState, InvalidStep, UnknownName

GATE = -1


def all_nodes(circuit):
    """Return the ascending list of all nodes."""
    return [(name, at) for name, sources, _ in circuit[1] for at in range(GATE, len(sources))]


def even_state(circuit, bit):
    """Return the state in which all nodes have the bit."""
    gates = circuit[1]
    return ((bit,) * len(gates), tuple([(bit,) * len(sources) for _, sources, _ in gates]))


def given_bits(circuit, setting, own):
    """Return a dict from the inputs and the gates to their bits: the wishes of the wires that read them."""
    given = {**setting}
    for gate, bit in zip(circuit[1], own):
        given[gate[0]] = bit
    return given


def excited_nodes(circuit, setting, state):
    """Return the ascending tuple of the excited nodes."""
    own, read = state
    given = given_bits(circuit, setting, own)
    found = []
    for (name, sources, table), mine, bits in zip(circuit[1], own, read):
        position = 0
        for bit in bits:
            position += position + bit
        if table[position] != mine:
            found.append((name, GATE))
        for wire, source in enumerate(sources):
            if bits[wire] != given[source]:
                found.append((name, wire))
    return tuple(found)


def is_place(circuit, at, wire):
    """Return whether gate number `at` has this wire, or -1 for itself."""
    return GATE <= wire < len(circuit[1][at][1])


def with_bit(bits, wire, bit):
    """Return the tuple of bits with another bit for a wire."""
    return bits[:wire] + (bit,) + bits[wire + 1:]


def moved_state(circuit, setting, state, movers):
    """Return the state after a step, or None if the movers are not different excited nodes."""
    gates = circuit[1]
    given = given_bits(circuit, setting, state[0])
    numbers = {gate[0]: at for at, gate in enumerate(gates)}
    own = list(state[0])
    read = list(state[1])
    for node in movers:
        if not is_node_pair(node) or node[0] not in numbers:
            return None
        at = numbers[node[0]]
        wire = node[1]
        if not is_place(circuit, at, wire):
            return None
        # All wishes are those of the state before the step. A node that has moved has its
        # wish, so it cannot move once more.
        if wire == GATE:
            wish = result_at(gates[at][2], state[1][at])
            if own[at] == wish:
                return None
            own[at] = wish
        else:
            wish = given[gates[at][1][wire]]
            if read[at][wire] == wish:
                return None
            read[at] = with_bit(read[at], wire, wish)
    return (tuple(own), tuple(read))


def has_state_form(circuit, value):
    """Return whether the value is a state of the circuit."""
    if type(value) is not tuple or len(value) != 2:
        return False
    gates = circuit[1]
    own, read = value
    if not is_bit_row(own, len(gates)) or type(read) is not tuple or len(read) != len(gates):
        return False
    for (_, sources, _), bits in zip(gates, read):
        if type(bits) is not tuple or len(bits) != len(sources):
            return False
        for bit in bits:
            if type(bit) is not int or bit and bit != 1:
                return False
    return True


def require_state(circuit, state):
    """Raise InvalidState if it is not a state of the circuit."""
    if not has_state_form(circuit, state):
        raise InvalidState("not a state of the circuit")


def found_place(circuit, node):
    """Return the number of the gate of a node, or raise UnknownName if it is not a node of the circuit."""
    if is_node_pair(node):
        for at, gate in enumerate(circuit[1]):
            if gate[0] == node[0] and is_place(circuit, at, node[1]):
                return at
    raise UnknownName(node)


def nodes(circuit):
    """Return the ascending tuple of all nodes."""
    require_circuit(circuit)
    return tuple(all_nodes(circuit))


def is_state(circuit, value):
    """Return whether the value is a state of the circuit."""
    require_circuit(circuit)
    return has_state_form(circuit, value)


def plain_state(circuit, *, bit=0):
    """Return the state in which all nodes have the bit."""
    require_circuit(circuit)
    if not is_bit(bit):
        raise InvalidNumber(bit)
    return even_state(circuit, bit)


def state_from(circuit, bits):
    """Return the state in which the nodes of a dict have its bits, and all others 0."""
    require_circuit(circuit)
    if type(bits) is not dict:
        raise InvalidState("not a dict")
    own, read = even_state(circuit, 0)
    own = list(own)
    read = list(read)
    numbers = {gate[0]: at for at, gate in enumerate(circuit[1])}
    for node, bit in bits.items():
        if not is_node_pair(node) or node[0] not in numbers or not is_bit(bit):
            raise InvalidState("not a dict from nodes of the circuit to bits")
        at = numbers[node[0]]
        if not is_place(circuit, at, node[1]):
            raise InvalidState("not a wire of the gate")
        if node[1] == GATE:
            own[at] = bit
        else:
            read[at] = with_bit(read[at], node[1], bit)
    return (tuple(own), tuple(read))


def bit_of(circuit, state, node):
    """Return the bit of a node."""
    require_circuit(circuit)
    require_state(circuit, state)
    at = found_place(circuit, node)
    return state[0][at] if node[1] == GATE else state[1][at][node[1]]


def wish_of(circuit, setting, state, node):
    """Return the wish of a node."""
    require_circuit(circuit)
    require_setting(circuit, setting)
    require_state(circuit, state)
    at = found_place(circuit, node)
    _, sources, table = circuit[1][at]
    if node[1] == GATE:
        return result_at(table, state[1][at])
    return given_bits(circuit, setting, state[0])[sources[node[1]]]


def excited(circuit, setting, state):
    """Return the ascending tuple of the excited nodes."""
    require_circuit(circuit)
    require_setting(circuit, setting)
    require_state(circuit, state)
    return excited_nodes(circuit, setting, state)


def stepped(circuit, setting, state, *movers):
    """Return the state after a step of these movers."""
    return stepped_by(circuit, setting, state, movers)


def stepped_by(circuit, setting, state, movers):
    """Return the state after a step of a tuple of movers."""
    require_circuit(circuit)
    require_setting(circuit, setting)
    require_state(circuit, state)
    after = moved_state(circuit, setting, state, movers) if type(movers) is tuple and movers else None
    if after is None:
        raise InvalidStep("not one or more different excited nodes")
    return after
