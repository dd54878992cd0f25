"""The nodes of a circuit by number, their bits, and which of them are excited.

A state is a number: its binary digit k is the bit of node number k. Sets of
nodes are numbers likewise.
"""

from loopgates.base.masks import numbers_of
from loopgates.circuits.wires import is_node_pair
from loopgates.runs.states import GATE

# For each size of a table the positions in it by the number whose digits are the bits of the wires.
POSITIONS = {
    4: (0, 2, 1, 3),
    8: (0, 4, 2, 6, 1, 5, 3, 7),
    16: (0, 8, 4, 12, 2, 10, 6, 14, 1, 9, 5, 13, 3, 11, 7, 15),
}
# For each number of wires the mask of the digits of a gate and its wires.
FIELDS = (1, 3, 7, 15, 31)
# For each such mask the bits of the wires by their digits.
WIRE_BITS = {
    1: ((),),
    3: ((0,), (1,)),
    7: ((0, 0), (1, 0), (0, 1), (1, 1)),
    15: ((0, 0, 0), (1, 0, 0), (0, 1, 0), (1, 1, 0), (0, 0, 1), (1, 0, 1), (0, 1, 1), (1, 1, 1)),
    31: (
        (0, 0, 0, 0), (1, 0, 0, 0), (0, 1, 0, 0), (1, 1, 0, 0), (0, 0, 1, 0), (1, 0, 1, 0), (0, 1, 1, 0), (1, 1, 1, 0),
        (0, 0, 0, 1), (1, 0, 0, 1), (0, 1, 0, 1), (1, 1, 0, 1), (0, 0, 1, 1), (1, 0, 1, 1), (0, 1, 1, 1), (1, 1, 1, 1),
    ),
}


class Wiring:
    """The nodes of a circuit by their numbers, ascending, and what hangs together with each; it never changes."""

    def __init__(self, circuit):
        inputs, gates = circuit
        self.nodes = []
        # For each node its gate.
        self.gate_of = []
        self.starts = []
        readers = {name: 0 for name in inputs}
        readers.update({gate[0]: 0 for gate in gates})
        unit = 1
        for at, (name, sources, _) in enumerate(gates):
            self.starts.append(len(self.nodes))
            self.nodes.append((name, GATE))
            self.gate_of.append(at)
            for wire, source in enumerate(sources):
                unit = unit + unit
                readers[source] = readers[source] | unit
                self.nodes.append((name, wire))
                self.gate_of.append(at)
            unit = unit + unit
        self.units = [1 << number for number in range(len(self.nodes))]
        # The nodes that are wires.
        self.wire_mask = sum([readers[name] for name in readers])
        # For each input and gate the wires that read it.
        self.readers = readers
        # For each gate its number, the mask for its digits and those of its wires, its table by these, and its readers.
        self.gates = []
        # For each gate where the digits of its wires begin, their mask, and the bits of the wires by their digits.
        self.views = []
        for (name, sources, table), start in zip(gates, self.starts):
            field = FIELDS[len(sources)]
            self.gates.append((start, field, by_digits(table), readers[name]))
            self.views.append((start + 1, field >> 1, WIRE_BITS[field]))
        self.numbers = {node: number for number, node in enumerate(self.nodes)}

    def reading(self, setting):
        """Return the set of the wires that read an input with the bit 1."""
        return sum([self.readers[name] for name in setting if setting[name]])

    def restless(self, given, bits):
        """Return the set of the excited nodes of a state."""
        wanted = given
        uneasy = 0
        for start, field, table, fan in self.gates:
            part = bits >> start & field
            own = part & 1
            if own:
                wanted = wanted | fan
            if table[part >> 1] != own:
                uneasy = uneasy | 1 << start
        return uneasy | (bits ^ wanted) & self.wire_mask

    def flipped(self, bits, uneasy, number):
        """Return the state in which a node has the other bit, and the set of its excited nodes."""
        own = self.units[number]
        start, field, table, fan = self.gates[self.gate_of[number]]
        if number == start:
            return bits ^ own, uneasy ^ own ^ fan
        after = bits ^ own
        if table[(bits >> start & field) >> 1] != table[(after >> start & field) >> 1]:
            return after, uneasy ^ own ^ self.units[start]
        return after, uneasy ^ own

    def bits_of(self, state):
        """Return the number of a state of the circuit."""
        flat = []
        for own, taken in zip(state[0], state[1]):
            flat.append(own)
            flat.extend(taken)
        bits = 0
        for unit, bit in zip(self.units, flat):
            if bit:
                bits = bits | unit
        return bits


def by_digits(table):
    """Return the results of a table by the number whose digits are the bits of the wires."""
    return table if len(table) < 4 else [table[position] for position in POSITIONS[len(table)]]


def state_with(wiring, bits):
    """Return the state with a number."""
    own = tuple([bits >> start & 1 for start in wiring.starts])
    return (own, tuple([rows[bits >> first & mask] for first, mask, rows in wiring.views]))


def changed_state(wiring, state, changed, bits):
    """Return the state with a number, by another state and the set of the nodes at which they differ."""
    own = list(state[0])
    taken = list(state[1])
    for number in numbers_of(changed):
        at = wiring.gate_of[number]
        first, mask, rows = wiring.views[at]
        own[at] = bits >> wiring.starts[at] & 1
        taken[at] = rows[bits >> first & mask]
    return (tuple(own), tuple(taken))


def node_number(numbers, value):
    """Return the number of a node, or None if the value is not a node that has one."""
    return numbers[value] if is_node_pair(value) and value in numbers else None
