"""Plays by the words of the document: all states are kept, and each question goes through all of them."""

from tests import oracle


def nodes_of(circuit):
    """Return all nodes, ascending."""
    return [(name, k) for name, sources, _ in circuit[1] for k in range(-1, len(sources))]


def wishes_of(circuit, setting, bits):
    """Return a dict from the nodes to their wishes, for a dict of their bits."""
    found = {}
    for name, sources, table in circuit[1]:
        found[name, -1] = oracle.result(table, [bits[name, k] for k in range(len(sources))])
        for k, source in enumerate(sources):
            found[name, k] = setting[source] if source in setting else bits[source, -1]
    return found


def uneasy(circuit, setting, bits):
    """Return the list of the excited nodes, ascending."""
    wishes = wishes_of(circuit, setting, bits)
    return [node for node in nodes_of(circuit) if bits[node] != wishes[node]]


def as_state(circuit, bits):
    """Return the state with these bits of all nodes."""
    return (
        tuple(bits[name, -1] for name, _, _ in circuit[1]),
        tuple(tuple(bits[name, k] for k in range(len(sources))) for name, sources, _ in circuit[1]))


class SlowPlay:
    """A play as a list of what has happened: triples of the movers (None for a change), the setting and the bits."""

    def __init__(self, circuit, setting, bits):
        self.circuit = circuit
        self.moments = [(None, setting, bits)]

    @property
    def setting(self):
        return self.moments[-1][1]

    @property
    def bits(self):
        return self.moments[-1][2]

    @property
    def excited(self):
        return tuple(uneasy(self.circuit, self.setting, self.bits))

    @property
    def state(self):
        return as_state(self.circuit, self.bits)

    @property
    def steps(self):
        return tuple(movers for movers, _, _ in self.moments if movers is not None)

    def step(self, movers):
        wishes = wishes_of(self.circuit, self.setting, self.bits)
        after = {node: wishes[node] if node in movers else bit for node, bit in self.bits.items()}
        self.moments.append((tuple(sorted(movers)), self.setting, after))

    def change(self, setting):
        if setting != self.setting:
            self.moments.append((None, setting, self.bits))

    @property
    def rounds(self):
        """Cut the moments since the last change of the setting into rounds."""
        first = max(at for at, moment in enumerate(self.moments) if moment[0] is None)
        moments = self.moments[first:]
        rounds, begin = 0, 0
        for end in range(1, len(moments)):
            if self.is_round(moments[begin:end + 1]):
                rounds, begin = rounds + 1, end
        return rounds

    def is_round(self, moments):
        """Return whether each node is not excited in one of the states, or moves in a step between two of them."""
        for node in nodes_of(self.circuit):
            calm = any(node not in uneasy(self.circuit, setting, bits) for _, setting, bits in moments)
            if not calm and not any(node in movers for movers, _, _ in moments[1:]):
                return False
        return True

    def next_turn(self):
        """Return the excited node that was last served at the earliest moment, the first one of several."""
        served = {node: -1 for node in nodes_of(self.circuit)}
        for at, (movers, setting, bits) in enumerate(self.moments):
            excited = uneasy(self.circuit, setting, bits)
            for node in served:
                if node not in excited or node in (movers or ()):
                    served[node] = at
        return min(self.excited, key=lambda node: (served[node], node))

    def undo(self, many):
        for _ in range(many):
            self.moments.pop()
        return len(self.moments) - 1
