"""All ticks of a machine at once, and the register states that it reaches."""

from loopgates.base.rows import rows_over
from loopgates.circuits.circuits import part_read
from loopgates.formulas.settles import settle_masks
from loopgates.machines.forms import first_state, input_names, read_names, register_names

BITS = (0, 1)
DIGIT_BITS = {"0": 0, "1": 1}


def digits_of(mask, size):
    """Return the string of the digits of a mask of so many rows, row 0 first."""
    return f"{mask:b}"[::-1].ljust(size, "0")


def summed(weights, bits):
    """Return the sum of the weights that stand where the bits are 1."""
    total = 0
    for weight, bit in zip(weights, bits):
        if bit:
            total += weight
    return total


class Space:
    """The ticks of a machine, worked out at all settings together."""

    def __init__(self, machine):
        names = read_names(machine)
        # Other gates need not settle, and inputs that nobody reads need no settings.
        part = part_read(machine[0], names)
        masks, full = settle_masks(part)
        size = full.bit_length()
        settled = full
        for name in names:
            settled = settled & (masks[name][0] | masks[name][1])
        self.settled = digits_of(settled, size)
        self.digits = [digits_of(masks[name][1], size) for name in names]
        self.many = len(machine[1])
        weights = {name: size >> (at + 1) for at, name in enumerate(part[0])}
        self.weights = [weights.get(name, 0) for name in register_names(machine)]
        inputs = input_names(machine)
        self.rows = rows_over([BITS] * len(inputs))
        own = [weights.get(name, 0) for name in inputs]
        self.offsets = [summed(own, row) for row in self.rows]
        self.start = first_state(machine)

    def results(self, state):
        """Return the list with, for each input row, the result of the tick at a register state, or None."""
        base = summed(self.weights, state)
        found = []
        for offset in self.offsets:
            number = base + offset
            if self.settled[number] == "0":
                found.append(None)
            else:
                bits = tuple([DIGIT_BITS[digits[number]] for digits in self.digits])
                found.append((bits[self.many:], bits[:self.many]))
        return found


class Reach:
    """The register states to which histories with results lead, in the order of the first ones of these."""

    def __init__(self, machine):
        space = Space(machine)
        self.rows = space.rows
        self.places = {space.start: 0}
        self.reached = [space.start]
        # For each of them the number of the state before it and the row that leads on from there.
        self.ways = [None]
        # For each of them, and each row, the pair of the output row and the number of the next state, or None.
        self.moves = []
        # The number of the first state, and of the row, at which there is no result.
        self.flip = None
        while len(self.moves) < len(self.reached):
            self._visit(space, len(self.moves))

    def _visit(self, space, at):
        """Put in what the ticks at a state lead to."""
        found = []
        for number, pair in enumerate(space.results(self.reached[at])):
            if pair is None:
                found.append(None)
                if self.flip is None:
                    self.flip = (at, number)
                continue
            shown, after = pair
            if after not in self.places:
                self.places[after] = len(self.reached)
                self.reached.append(after)
                self.ways.append((at, self.rows[number]))
            found.append((shown, self.places[after]))
        self.moves.append(found)

    def flip_history(self):
        """Return the first history whose last tick, and no other one, has no result; there is one."""
        at, number = self.flip
        return rows_back(self.ways, at) + (self.rows[number],)


def rows_back(ways, at):
    """Return the tuple of the rows that lead to a place; `ways` has the place before it and the row for each."""
    found = []
    while ways[at] is not None:
        at, row = ways[at]
        found.append(row)
    found.reverse()
    return tuple(found)
