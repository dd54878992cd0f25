"""Machines: circuits with registers, which keep bits from tick to tick."""

from loopgates.base.counts import require_undoable
from loopgates.base.names import is_bit
from loopgates.circuits.circuits import is_circuit, require_circuit
from loopgates.errors import Flipping, InvalidMachine
from loopgates.machines.forms import (
    first_state, flip_paper, found_tick, input_names, require_bits, require_history)
from loopgates.modules.behaviours import are_outputs

MAX_REGISTERS = 11


def are_registers(circuit, value):
    """Return whether the value is an ascending tuple of at most eleven registers of the circuit."""
    if type(value) is not tuple or len(value) > MAX_REGISTERS:
        return False
    inputs, gates = circuit
    known = {name: True for name in inputs}
    known.update({gate[0]: True for gate in gates})
    before = ""
    for triple in value:
        if type(triple) is not tuple or len(triple) != 3:
            return False
        name, source, bit = triple
        if type(name) is not str or name not in inputs or name <= before:
            return False
        if type(source) is not str or source not in known or not is_bit(bit):
            return False
        before = name
    return True


def is_machine(value):
    """Return whether the value is a machine."""
    if type(value) is not tuple or len(value) != 3:
        return False
    circuit, registers, outputs = value
    return is_circuit(circuit) and are_registers(circuit, registers) and are_outputs(circuit, outputs)


def require_machine(machine):
    """Raise InvalidMachine if it is not a machine."""
    if not is_machine(machine):
        raise InvalidMachine("not a machine")


def make_machine(circuit, registers, **outputs):
    """Return the machine with a dict of registers and these output ports."""
    return machine_from(circuit, registers, outputs)


def machine_from(circuit, registers, outputs):
    """Return the machine with a dict of registers and a dict of output ports."""
    require_circuit(circuit)
    for passed in (registers, outputs):
        if type(passed) is not dict or [key for key in passed if type(key) is not str]:
            raise InvalidMachine("not a dict from names")
    made = []
    for name in sorted(registers):
        pair = registers[name]
        if type(pair) is not tuple or len(pair) != 2:
            raise InvalidMachine("a register is not a pair of a source and a bit")
        made.append((name, pair[0], pair[1]))
    machine = (circuit, tuple(made), tuple([(port, outputs[port]) for port in sorted(outputs)]))
    require_machine(machine)
    return machine


def tick(machine, state, row):
    """Return the pair of the row of the outputs and the next register state, or None if the machine flips there."""
    require_machine(machine)
    inputs = input_names(machine)
    require_bits(state, len(machine[1]))
    require_bits(row, len(inputs))
    return found_tick(machine, inputs, state, row)


def outputs_of(machine, history):
    """Return the tuple of the output rows of a history."""
    runner = Runner(machine)
    return tuple(runner.ticks(history))


class Runner:
    """A machine that ticks row by row, and back."""

    def __init__(self, machine):
        require_machine(machine)
        self._machine = machine
        self._inputs = input_names(machine)
        self._rows = []
        # The register states before the ticks, and the present one behind them.
        self._passed = [first_state(machine)]
        # The results of the ticks that have been worked out.
        self._found = {}

    @property
    def machine(self):
        """The machine."""
        return self._machine

    @property
    def state(self):
        """The present register state."""
        return self._passed[-1]

    @state.setter
    def state(self, value):
        """Put another register state in the place of the present one, without a history."""
        self.set_state(value)

    @property
    def history(self):
        """The tuple of the input rows since the runner was made or its state was assigned."""
        return tuple(self._rows)

    def set_state(self, value):
        """Put another register state in the place of the present one, without a history."""
        require_bits(value, len(self._machine[1]))
        self._passed = [value]
        self._rows = []

    def __call__(self, row):
        """Do a tick and return the output row."""
        require_bits(row, len(self._inputs))
        return self._do(row)

    def ticks(self, history):
        """Yield the output rows of a history; each tick is done when its row is asked for."""
        require_history(history, len(self._inputs))
        for row in history:
            yield self._do(row)

    def back(self, *, many=1):
        """Take back the last ticks, and return how many are left."""
        require_undoable(many, len(self._rows))
        left = len(self._rows) - many
        del self._rows[left:]
        del self._passed[left + 1:]
        return left

    def twin(self):
        """Return an independent equal runner with the same history."""
        other = Runner(self._machine)
        other._rows = list(self._rows)
        other._passed = list(self._passed)
        return other

    def _do(self, row):
        """Do a tick at a row of the inputs, and return the output row."""
        state = self._passed[-1]
        key = (state, row)
        if key not in self._found:
            self._found[key] = found_tick(self._machine, self._inputs, state, row)
        found = self._found[key]
        if found is None:
            raise Flipping(flip_paper(self._machine, self._inputs, state, tuple(self._rows) + (row,)))
        self._rows.append(row)
        self._passed.append(found[1])
        return found[0]

    def __len__(self):
        return len(self._rows)

    def __eq__(self, other):
        return isinstance(other, Runner) and self._machine == other._machine and self._passed[-1] == other._passed[-1]
