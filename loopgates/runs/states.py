"""States of circuits, the wishes of their nodes, and steps."""

from loopgates.base.names import are_up_to, is_bit, is_bit_row
from loopgates.base.tables import forced_bit
from loopgates.circuits.circuits import require_circuit
from loopgates.circuits.settings import require_setting
from loopgates.circuits.wires import is_node_pair
from loopgates.errors import InvalidNumber, InvalidState, InvalidStep, UnknownName

GATE = -1


def all_nodes(circuit):
    """Return the ascending list of all nodes."""
    return [(name, at) for name, sources, _ in circuit[1] for at in range(GATE, len(sources))]


def built_state(circuit, bits):
    """Return the state in which the nodes of a dict have its bits, and all others 0."""
    own = []
    read = []
    for name, sources, _ in circuit[1]:
        own.append(bits.get((name, GATE), 0))
        read.append(tuple([bits.get((name, wire), 0) for wire in range(len(sources))]))
    return (tuple(own), tuple(read))


def node_bits(circuit, state):
    """Return a dict from all nodes, ascending, to their bits."""
    bits = {}
    for gate, own, read in zip(circuit[1], state[0], state[1]):
        bits[(gate[0], GATE)] = own
        for wire, bit in enumerate(read):
            bits[(gate[0], wire)] = bit
    return bits


def node_wishes(circuit, setting, state):
    """Return a dict from all nodes, ascending, to their wishes."""
    given = {name: setting[name] for name in circuit[0]}
    for gate, own in zip(circuit[1], state[0]):
        given[gate[0]] = own
    wishes = {}
    for gate, read in zip(circuit[1], state[1]):
        name, sources, table = gate
        wishes[(name, GATE)] = forced_bit(table, read)
        for wire, source in enumerate(sources):
            wishes[(name, wire)] = given[source]
    return wishes


def excited_nodes(circuit, setting, state):
    """Return the ascending tuple of the excited nodes."""
    bits = node_bits(circuit, state)
    wishes = node_wishes(circuit, setting, state)
    return tuple([node for node in bits if bits[node] != wishes[node]])


def is_node_of(places, value):
    """Return whether the value is a node, one of the keys of a dict or the items of a tuple of nodes."""
    return is_node_pair(value) and value in places


def has_state_form(circuit, value):
    """Return whether the value is a state of the circuit."""
    if not isinstance(value, tuple) or len(value) != 2:
        return False
    gates = circuit[1]
    own, read = value
    if not is_bit_row(own, len(gates)) or not isinstance(read, tuple) or len(read) != len(gates):
        return False
    for gate, bits in zip(gates, read):
        if not is_bit_row(bits, len(gate[1])):
            return False
    return True


def require_state(circuit, state):
    """Raise InvalidState if it is not a state of the circuit."""
    if not has_state_form(circuit, state):
        raise InvalidState("not a state of the circuit")


def require_node(circuit, node):
    """Raise UnknownName if it is not a node of the circuit."""
    if not is_node_of(all_nodes(circuit), node):
        raise UnknownName(node)


def nodes(circuit):
    """Return the ascending tuple of all nodes."""
    require_circuit(circuit)
    return tuple(all_nodes(circuit))


def is_state(circuit, value):
    """Return whether the value is a state of the circuit."""
    require_circuit(circuit)
    return has_state_form(circuit, value)


def plain_state(circuit, *, bit=0):
    """Return the state in which all nodes have the bit."""
    require_circuit(circuit)
    if not is_bit(bit):
        raise InvalidNumber(bit)
    return built_state(circuit, {node: bit for node in all_nodes(circuit)})


def state_from(circuit, bits):
    """Return the state in which the nodes of a dict have its bits, and all others 0."""
    require_circuit(circuit)
    if not isinstance(bits, dict) or not are_up_to(list(bits.values()), 1):
        raise InvalidState("not a dict to bits")
    known = {node: True for node in all_nodes(circuit)}
    for node in bits:
        if not is_node_of(known, node):
            raise InvalidState("not a dict from nodes of the circuit")
    return built_state(circuit, bits)


def bit_of(circuit, state, node):
    """Return the bit of a node."""
    require_circuit(circuit)
    require_state(circuit, state)
    require_node(circuit, node)
    return node_bits(circuit, state)[node]


def wish_of(circuit, setting, state, node):
    """Return the wish of a node."""
    require_circuit(circuit)
    require_setting(circuit, setting)
    require_state(circuit, state)
    require_node(circuit, node)
    return node_wishes(circuit, setting, state)[node]


def excited(circuit, setting, state):
    """Return the ascending tuple of the excited nodes."""
    require_circuit(circuit)
    require_setting(circuit, setting)
    require_state(circuit, state)
    return excited_nodes(circuit, setting, state)


def stepped(circuit, setting, state, *movers):
    """Return the state after a step of these movers."""
    return stepped_by(circuit, setting, state, movers)


def stepped_by(circuit, setting, state, movers):
    """Return the state after a step of a tuple of movers."""
    require_circuit(circuit)
    require_setting(circuit, setting)
    require_state(circuit, state)
    if not isinstance(movers, tuple) or not movers:
        raise InvalidStep("not a tuple of one or more movers")
    bits = node_bits(circuit, state)
    # All wishes are those of the state before the step, so no bit changes until all are known.
    wishes = node_wishes(circuit, setting, state)
    moved = {}
    for node in movers:
        if not is_node_of(bits, node) or node in moved or bits[node] == wishes[node]:
            raise InvalidStep("the movers are not different excited nodes")
        moved[node] = wishes[node]
    return built_state(circuit, {node: moved.get(node, bits[node]) for node in bits})
