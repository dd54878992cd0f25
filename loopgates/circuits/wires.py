"""Nodes that are wires, and chains of them."""


def is_node_pair(value):
    """Return whether the value is a pair of a string and an integer, as nodes are."""
    # True and False are equal to 1 and 0, also within pairs, but no wires.
    return type(value) is tuple and len(value) == 2 and type(value[0]) is str and type(value[1]) is int


def source_of_wire(gates, value):
    """Return the source of a wire, or None if the value is no wire of the gates."""
    if not is_node_pair(value) or value[0] not in gates:
        return None
    name, wire = value
    sources = gates[name][0]
    return sources[wire] if 0 <= wire < len(sources) else None


def chain_end(gates, value):
    """Return the source of the last wire of a chain, or None if the value is no chain.

    A chain is a tuple of one or more wires of different gates. The source
    of each wire but the last one is the gate of the next one.
    """
    if type(value) is not tuple:
        return None
    seen = {}
    source = None
    for node in value:
        if source_of_wire(gates, node) is None or node[0] in seen:
            return None
        if seen and node[0] != source:
            return None
        seen[node[0]] = True
        source = source_of_wire(gates, node)
    return source
