"""The parts of machines, and single ticks of what are known to be machines."""

from loopgates.base.names import UNKNOWN, is_bit_row
from loopgates.errors import InvalidRow
from loopgates.runs.flips import loop_from
from loopgates.settling.known import all_values, gate_values


def register_names(machine):
    """Return the tuple of the names of the registers."""
    return tuple([name for name, _, _ in machine[1]])


def input_names(machine):
    """Return the tuple of the inputs of the machine: those of the circuit that are no registers."""
    own = register_names(machine)
    return tuple([name for name in machine[0][0] if name not in own])


def output_ports(machine):
    """Return the tuple of the output ports."""
    return tuple([port for port, _ in machine[2]])


def read_names(machine):
    """Return the list of the names that a tick reads: the sources of the registers, and behind them the outputs."""
    return [source for _, source, _ in machine[1]] + [name for _, name in machine[2]]


def first_state(machine):
    """Return the first register state."""
    return tuple([bit for _, _, bit in machine[1]])


def require_bits(row, length):
    """Raise InvalidRow if it is not a row of so many bits."""
    if not is_bit_row(row, length):
        raise InvalidRow("not a row of so many bits")


def is_history(value, length):
    """Return whether the value is a tuple of rows of so many bits."""
    if type(value) is not tuple:
        return False
    for row in value:
        if not is_bit_row(row, length):
            return False
    return True


def require_history(history, length):
    """Raise InvalidRow if it is not a tuple of rows of so many bits."""
    if not is_history(history, length):
        raise InvalidRow("not a tuple of input rows")


def tick_setting(machine, inputs, state, row):
    """Return the setting of the circuit at a register state and a row of the inputs of the machine."""
    setting = {name: bit for (name, _, _), bit in zip(machine[1], state)}
    for name, bit in zip(inputs, row):
        setting[name] = bit
    return setting


def found_tick(machine, inputs, state, row):
    """Return the result of a tick, or None if the machine flips there."""
    circuit, registers, outputs = machine
    values = all_values(circuit, tick_setting(machine, inputs, state, row))
    shown = tuple([values[name] for _, name in outputs])
    after = tuple([values[source] for _, source, _ in registers])
    return None if UNKNOWN in shown or UNKNOWN in after else (shown, after)


def flip_paper(machine, inputs, state, history):
    """Return the paper for a history whose last tick, at this register state, has no result."""
    circuit = machine[0]
    setting = tick_setting(machine, inputs, state, history[-1])
    return ("flips", history, loop_from(circuit, setting, gate_values(circuit, setting)))
