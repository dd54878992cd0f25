"""Modules for behaviours: each behaviour has one."""

from loopgates.base.names import UNKNOWN
from loopgates.base.rows import rows_over
from loopgates.base.tables import MAX_WIRES, built_table
from loopgates.circuits.circuits import MAX_GATES
from loopgates.circuits.fresh import fresh_names
from loopgates.errors import InvalidOperation, TooMany
from loopgates.modules.behaviours import computed_behaviour, is_module, prime_list, require_behaviour, row_number

BITS = (0, 1)
# f1 or (out and not f0), with the wires f1, out and f0.
LOOP_TABLE = (0, 0, 1, 0, 1, 1, 1, 1)
# f1 or (not f0 and not f1), with the wires f1, f0 and f1.
PLAIN_TABLE = (1, 0, 0, 0, 1, 1, 1, 1)


def place_of(gates, sources, table):
    """Return the number of the gate with these sources and this table; it is made if there is none.

    `gates` is a dict from such pairs to the numbers of the gates. Sources
    are names of inputs and numbers of gates.
    """
    return gates.setdefault((tuple(sources), table), len(gates))


def match_table(bits):
    """Return the table that is 1 for these bits alone."""
    number = 0
    for bit in bits:
        number = number + number + bit
    return tuple([1 if at == number else 0 for at in range(1 << len(bits))])


def source_of_row(gates, inputs, row):
    """Return the source that is 1 where a row of values has all bits of this row, and 0 where it has another one."""
    names = [name for name, value in zip(inputs, row) if value != UNKNOWN]
    bits = [value for value in row if value != UNKNOWN]
    if bits == [1]:
        return names[0]
    found = place_of(gates, names[:MAX_WIRES], match_table(bits[:MAX_WIRES]))
    if len(bits) > MAX_WIRES:
        found = place_of(gates, [found] + names[MAX_WIRES:], match_table([1] + bits[MAX_WIRES:]))
    return found


def source_of_any(gates, sources):
    """Return the source that is 1 if one of the sources is, and 0 if all of them are."""
    if not sources:
        return place_of(gates, (), (0,))
    while len(sources) > 1:
        some = sources[:MAX_WIRES]
        sources = sources[MAX_WIRES:] + [place_of(gates, some, built_table("or", len(some)))]
    return sources[0]


def source_of_rows(gates, behaviour, place, bit):
    """Return the source that is 1 where one of the prime rows of an output for a bit is continued."""
    sources = [source_of_row(gates, behaviour[0], row) for row in prime_list(behaviour, place, bit)]
    return source_of_any(gates, sources)


def first_unknown(behaviour):
    """Return a dict from the outputs that need a loop to the first rows of bits to which they have 2."""
    inputs, outputs, rows = behaviour
    found = {}
    for row in rows_over([BITS] * len(inputs)):
        for output, value in zip(outputs, rows[row_number(row)]):
            if value == UNKNOWN and output not in found:
                found[output] = row
    return {output: found[output] for output in outputs if output in found}


def built_module(behaviour, looping):
    """Return the module with this behaviour in which these outputs have a loop."""
    inputs, outputs, _ = behaviour
    gates = {}
    shown = []
    for place, output in enumerate(outputs):
        low = source_of_rows(gates, behaviour, place, 0)
        high = source_of_rows(gates, behaviour, place, 1)
        if output in looping:
            # Its number is the one of no other gate, so no two outputs have one loop.
            shown.append(place_of(gates, (high, len(gates), low), LOOP_TABLE))
        else:
            shown.append(place_of(gates, (high, low, high), PLAIN_TABLE))
    if len(gates) > MAX_GATES:
        raise TooMany(MAX_GATES)
    names = fresh_names(len(gates), {name: True for name in inputs})
    made = []
    for name, (sources, table) in zip(names, gates):
        made.append((name, tuple([source if type(source) is str else names[source] for source in sources]), table))
    return (inputs, tuple(made)), tuple([(output, names[place]) for output, place in zip(outputs, shown)])


def realized(behaviour):
    """Return a module with this behaviour that has one part with loops for each output that needs one."""
    require_behaviour(behaviour)
    return built_module(behaviour, first_unknown(behaviour))


def realized_plain(behaviour):
    """Return a module with this behaviour and without loops."""
    require_behaviour(behaviour)
    if first_unknown(behaviour):
        raise InvalidOperation("an output needs a loop")
    return built_module(behaviour, {})


def is_realization(behaviour, value):
    """Return whether the value is a module with this behaviour."""
    require_behaviour(behaviour)
    return is_module(value) and computed_behaviour(value) == behaviour


def looping_outputs(behaviour):
    """Return a dict from the outputs that need a loop to the first rows of bits to which they have 2."""
    require_behaviour(behaviour)
    return first_unknown(behaviour)
