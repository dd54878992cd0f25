"""States that move: the nodes of a circuit by number, and which of them are excited."""

from loopgates.base.rows import rows_over
from loopgates.circuits.wires import is_node_pair
from loopgates.runs.states import GATE, all_nodes

BITS = (0, 1)
EMPTY = ((), ())


class Wiring:
    """The nodes of a circuit by their numbers, ascending, and what hangs together with each; it never changes.

    Sets of nodes are masks, in which digit k stands for node number k.
    """

    def __init__(self, circuit):
        inputs, gates = circuit
        self.nodes = all_nodes(circuit)
        self.numbers = {node: number for number, node in enumerate(self.nodes)}
        self.units = [1 << number for number in range(len(self.nodes))]
        self.whole = (1 << len(self.nodes)) - 1
        self.tables = [gate[2] for gate in gates]
        self.starts = [self.numbers[(gate[0], GATE)] for gate in gates]
        # For each node its gate, and what the bit of a wire weighs in the position in the table.
        self.gate_of = []
        self.weights = []
        # For each input and gate, the set of the wires that read it.
        readers = {name: 0 for name in inputs}
        readers.update({gate[0]: 0 for gate in gates})
        for at, (_, sources, _) in enumerate(gates):
            self.gate_of.extend([at] * (1 + len(sources)))
            self.weights.append(0)
            for wire, source in enumerate(sources):
                self.weights.append(1 << (len(sources) - 1 - wire))
                readers[source] = readers[source] | self.units[self.starts[at] + 1 + wire]
        self.readers = readers
        self.fans = [readers[gate[0]] for gate in gates]
        # For each gate, the bits of its wires by the position in its table.
        rows = [rows_over([BITS] * many) for many in range(5)]
        self.rows = [rows[len(gate[1])] for gate in gates]


def node_number(numbers, value):
    """Return the number of a node, or None if the value is not a node that has one."""
    return numbers[value] if is_node_pair(value) and value in numbers else None


def position_of(bits):
    """Return the number whose binary digits are the bits, the first one first."""
    position = 0
    for bit in bits:
        position += position + bit
    return position


class Motion:
    """A state in which nodes can move, with the set of its excited nodes."""

    def __init__(self, wiring, circuit, setting, state):
        self.wiring = wiring
        self.own = list(state[0])
        self.taken = list(state[1])
        self.positions = [position_of(bits) for bits in self.taken]
        self.wishes = [table[position] for table, position in zip(wiring.tables, self.positions)]
        given = {**setting}
        for gate, bit in zip(circuit[1], self.own):
            given[gate[0]] = bit
        uneasy = 0
        for at, start in enumerate(wiring.starts):
            if self.own[at] != self.wishes[at]:
                uneasy = uneasy | wiring.units[start]
            for wire, source in enumerate(circuit[1][at][1]):
                if self.taken[at][wire] != given[source]:
                    uneasy = uneasy | wiring.units[start + 1 + wire]
        self.uneasy = uneasy

    def move(self, movers):
        """Let the excited nodes with these numbers move."""
        wiring = self.wiring
        flips = 0
        touched = []
        for number in movers:
            flips = flips ^ wiring.units[number]
            at = wiring.gate_of[number]
            weight = wiring.weights[number]
            if weight:
                self.positions[at] = self.positions[at] ^ weight
                touched.append(at)
            else:
                self.own[at] = 1 - self.own[at]
                flips = flips ^ wiring.fans[at]
        for at in touched:
            position = self.positions[at]
            self.taken[at] = wiring.rows[at][position]
            if wiring.tables[at][position] != self.wishes[at]:
                self.wishes[at] = 1 - self.wishes[at]
                flips = flips ^ wiring.units[wiring.starts[at]]
        self.uneasy = self.uneasy ^ flips

    def change(self, names):
        """Give the other bit to these inputs."""
        for name in names:
            self.uneasy = self.uneasy ^ self.wiring.readers[name]

    def twin(self):
        """Return an equal state that moves on its own."""
        other = Motion(Wiring(EMPTY), EMPTY, {}, EMPTY)
        other.wiring = self.wiring
        other.own = list(self.own)
        other.taken = list(self.taken)
        other.positions = list(self.positions)
        other.wishes = list(self.wishes)
        other.uneasy = self.uneasy
        return other
