"""Modules and their behaviours: tables of answers to rows of values."""

from loopgates.base.masks import row_masks
from loopgates.base.names import UNKNOWN, is_bit, is_name, is_name_tuple, is_row
from loopgates.base.rows import ternary_row
from loopgates.circuits.circuits import is_circuit, require_circuit
from loopgates.errors import (
    InvalidBehaviour, InvalidModule, InvalidNumber, InvalidOperation, InvalidRow, TooMany, UnknownName)
from loopgates.settling.many import input_masks, solved_masks

MAX_PORTS = 5
MAX_OUTPUTS = 6
# The number of rows of values for each number of inputs.
ROW_COUNTS = (1, 3, 9, 27, 81, 243)


def are_outputs(circuit, value):
    """Return whether the value is an ascending tuple of one to six pairs of ports and names of the circuit."""
    if type(value) is not tuple or not 1 <= len(value) <= MAX_OUTPUTS:
        return False
    known = {name: True for name in circuit[0]}
    known.update({gate[0]: True for gate in circuit[1]})
    before = ""
    for pair in value:
        if type(pair) is not tuple or len(pair) != 2:
            return False
        port, name = pair
        if not is_name(port) or port <= before or type(name) is not str or name not in known:
            return False
        before = port
    return True


def is_module(value):
    """Return whether the value is a module."""
    if type(value) is not tuple or len(value) != 2 or not is_circuit(value[0]):
        return False
    return len(value[0][0]) <= MAX_PORTS and are_outputs(value[0], value[1])


def require_module(module):
    """Raise InvalidModule if it is not a module."""
    if not is_module(module):
        raise InvalidModule("not a module")


def make_module(circuit, **outputs):
    """Return the module with these output ports."""
    return module_from(circuit, outputs)


def module_from(circuit, outputs):
    """Return the module with the output ports of a dict."""
    require_circuit(circuit)
    if type(outputs) is not dict or [port for port in outputs if type(port) is not str]:
        raise InvalidModule("not a dict from ports")
    pairs = tuple([(port, outputs[port]) for port in sorted(outputs)])
    if not are_outputs(circuit, pairs):
        raise InvalidModule("not one to six ports with names of the circuit")
    if len(circuit[0]) > MAX_PORTS:
        raise TooMany(MAX_PORTS)
    return (circuit, pairs)


def are_ports(inputs, outputs):
    """Return whether the values are ascending tuples of zero to five and of one to six names."""
    if not is_name_tuple(inputs) or not is_name_tuple(outputs):
        return False
    return len(inputs) <= MAX_PORTS and 1 <= len(outputs) <= MAX_OUTPUTS


def are_answers(inputs, outputs, value):
    """Return whether the value is a tuple of the answers of a behaviour with these ports."""
    many = ROW_COUNTS[len(inputs)]
    if type(value) is not tuple or len(value) != many:
        return False
    width = len(outputs)
    for row in value:
        if type(row) is not tuple or len(row) != width:
            return False
        for item in row:
            if item != UNKNOWN and (type(item) is not int or item and item != 1):
                return False
    # To replace one bit by 2 is enough: with more of them, answers follow one by one.
    block = many // 3
    while block:
        if not are_blocks_fit(value, block):
            return False
        block = block // 3
    return True


def are_blocks_fit(rows, block):
    """Return whether the answers where an input is 0 or 1 continue those where it is 2, all in blocks of this size."""
    nothing = (UNKNOWN,) * len(rows[0])
    for start in range(0, len(rows), 3 * block):
        middle = start + 2 * block
        for low, high, both in zip(rows[start:start + block], rows[start + block:middle], rows[middle:middle + block]):
            if both != nothing and (low != both or high != both):
                for first, second, item in zip(low, high, both):
                    if item != UNKNOWN and (item != first or item != second):
                        return False
    return True


def is_behaviour(value):
    """Return whether the value is a behaviour."""
    if type(value) is not tuple or len(value) != 3:
        return False
    inputs, outputs, rows = value
    return are_ports(inputs, outputs) and are_answers(inputs, outputs, rows)


def require_behaviour(behaviour):
    """Raise InvalidBehaviour if it is not a behaviour."""
    if not is_behaviour(behaviour):
        raise InvalidBehaviour("not a behaviour")


def rows_by_masks(pairs, many):
    """Return the tuple of so many answers for the masks where each output is 0 and where it is 1."""
    columns = []
    for zeros, ones in pairs:
        low = f"{zeros:b}"[::-1].ljust(many, "0")
        high = f"{ones:b}"[::-1].ljust(many, "0")
        columns.append([1 if one == "1" else 0 if zero == "1" else UNKNOWN for zero, one in zip(low, high)])
    return tuple(zip(*columns))


def computed_behaviour(module):
    """Return the behaviour of what is known to be a module."""
    circuit, outputs = module
    inputs = circuit[0]
    pairs, full = row_masks(len(inputs), 3)
    masks = solved_masks(circuit, input_masks(inputs, pairs), full)
    rows = rows_by_masks([masks[name] for _, name in outputs], ROW_COUNTS[len(inputs)])
    return (inputs, tuple([port for port, _ in outputs]), rows)


def behaviour_of(module):
    """Return the behaviour of a module."""
    require_module(module)
    return computed_behaviour(module)


def behaviour_from(inputs, outputs, rows):
    """Return the behaviour with these parts."""
    behaviour = (inputs, outputs, rows)
    require_behaviour(behaviour)
    return behaviour


def behaviour_by(inputs, outputs, call):
    """Return the behaviour whose answer to a row is `call(row)`."""
    if not are_ports(inputs, outputs):
        raise InvalidBehaviour("not the ports of a behaviour")
    rows = tuple([call(ternary_row(at, len(inputs))) for at in range(ROW_COUNTS[len(inputs)])])
    if not are_answers(inputs, outputs, rows):
        raise InvalidBehaviour("not the answers of a behaviour")
    return (inputs, outputs, rows)


def row_number(row):
    """Return the number whose ternary digits are the values of a row."""
    number = 0
    for value in row:
        number = 3 * number + value
    return number


def answer(behaviour, row):
    """Return the answer to a row."""
    require_behaviour(behaviour)
    if not is_row(row) or len(row) != len(behaviour[0]):
        raise InvalidRow("not a row with a value for each input")
    return behaviour[2][row_number(row)]


def prime_list(behaviour, place, bit):
    """Return the list of the prime rows for a bit of the output in this place, ascending."""
    inputs, _, rows = behaviour
    weights = [len(rows) // ROW_COUNTS[at + 1] for at in range(len(inputs))]
    found = []
    for number, answers in enumerate(rows):
        if answers[place] == bit:
            row = ternary_row(number, len(inputs))
            # To replace one bit by 2 is enough: with more of them, an answer has no more bits.
            wider = [number + (UNKNOWN - value) * weight for value, weight in zip(row, weights) if value != UNKNOWN]
            if bit not in [rows[other][place] for other in wider]:
                found.append(row)
    return found


def output_primes(behaviour, output, bit):
    """Return the ascending tuple of the prime rows of an output for a bit."""
    require_behaviour(behaviour)
    outputs = behaviour[1]
    if type(output) is not str or output not in outputs:
        raise UnknownName(output)
    if not is_bit(bit):
        raise InvalidNumber(bit)
    return tuple(prime_list(behaviour, outputs.index(output), bit))


def continuing_mask(rows, pairs, full):
    """Return the mask of the rows that continue one of these rows."""
    mask = 0
    for row in rows:
        found = full
        for value, pair in zip(row, pairs):
            if value != UNKNOWN:
                found = found & pair[value]
        mask = mask | found
    return mask


def are_prime_rows(value, length):
    """Return whether the value is a pair of tuples of rows of this length."""
    if type(value) is not tuple or len(value) != 2:
        return False
    for rows in value:
        if type(rows) is not tuple:
            return False
        for row in rows:
            if not is_row(row) or len(row) != length:
                return False
    return True


def behaviour_of_primes(inputs, primes):
    """Return the behaviour in which an output has a bit exactly where the row continues one of its rows for it."""
    if type(primes) is not dict or [port for port in primes if type(port) is not str]:
        raise InvalidBehaviour("not a dict from the outputs")
    outputs = tuple(sorted(primes))
    if not are_ports(inputs, outputs):
        raise InvalidBehaviour("not the ports of a behaviour")
    pairs, full = row_masks(len(inputs), 3)
    masks = []
    for port in outputs:
        if not are_prime_rows(primes[port], len(inputs)):
            raise InvalidBehaviour("not a pair of tuples of rows")
        zeros = continuing_mask(primes[port][0], pairs, full)
        ones = continuing_mask(primes[port][1], pairs, full)
        # If two rows have no unlike bits, there is a row that continues both.
        if zeros & ones:
            raise InvalidBehaviour("a row for 0 and a row for 1 have no unlike bits")
        masks.append((zeros, ones))
    return (inputs, outputs, rows_by_masks(masks, ROW_COUNTS[len(inputs)]))


def first_unlike(first, second):
    """Return the first row to which two behaviours with the same ports have unlike answers, or None."""
    require_behaviour(first)
    require_behaviour(second)
    if first[:2] != second[:2]:
        raise InvalidOperation("the ports differ")
    for number, (mine, other) in enumerate(zip(first[2], second[2])):
        if mine != other:
            return ternary_row(number, len(first[0]))
    return None
