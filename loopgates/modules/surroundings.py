"""Surroundings: circuits around a module or a behaviour, which close it."""

from loopgates.base.names import UNKNOWN
from loopgates.circuits.circuits import MAX_GATES, is_circuit
from loopgates.circuits.fresh import fresh_names
from loopgates.errors import InvalidModule, InvalidOperation, TooMany
from loopgates.modules.behaviours import computed_behaviour, is_behaviour, is_module, row_number
from loopgates.settling.known import all_values

BUFFER = (0, 1)


def ports_of(part):
    """Return the pair of the input ports and the output ports of a module or a behaviour."""
    if is_module(part):
        return part[0][0], tuple([port for port, _ in part[1]])
    if is_behaviour(part):
        return part[0], part[1]
    raise InvalidModule("neither a module nor a behaviour")


def answer_to(part, given):
    """Return the tuple of the values of the output ports, for a dict of those of the input ports."""
    if len(part) == 2:
        circuit, outputs = part
        values = all_values(circuit, given)
        return tuple([values[name] for _, name in outputs])
    return part[2][row_number([given[port] for port in part[0]])]


def has_surrounding_form(ports, value):
    """Return whether the value is a surrounding of a part with these ports."""
    if type(value) is not tuple or len(value) != 3:
        return False
    circuit, feeds, gate = value
    inputs, outputs = ports
    if not is_circuit(circuit) or circuit[0] != outputs:
        return False
    gates = {name: True for name, _, _ in circuit[1]}
    if type(gate) is not str or gate not in gates or type(feeds) is not dict or len(feeds) != len(inputs):
        return False
    for port in inputs:
        if port not in feeds:
            return False
        name = feeds[port]
        if type(name) is not str or name not in gates and name not in outputs:
            return False
    return True


def require_surrounding(ports, surrounding):
    """Raise InvalidOperation if it is not a surrounding of a part with these ports."""
    if not has_surrounding_form(ports, surrounding):
        raise InvalidOperation("not a surrounding of the part")


def closed_value(part, ports, surrounding):
    """Return the value of the gate of what is known to be a surrounding of the part."""
    circuit, feeds, gate = surrounding
    inputs, outputs = ports
    given = {port: UNKNOWN for port in outputs}
    before = None
    values = {}
    # From below: the outputs of the part only win bits, each of them at most one.
    while given != before:
        before = given
        values = all_values(circuit, given)
        answers = answer_to(part, {port: values[feeds[port]] for port in inputs})
        given = {port: value for port, value in zip(outputs, answers)}
    return values[gate]


def is_surrounding(part, value):
    """Return whether the value is a surrounding of the part."""
    return has_surrounding_form(ports_of(part), value)


def result(part, surrounding):
    """Return the value of the gate of the surrounding."""
    ports = ports_of(part)
    require_surrounding(ports, surrounding)
    return closed_value(part, ports, surrounding)


def renamed_gates(circuit, fresh, sources):
    """Return the list of the gates of a circuit under new names, with new sources for all that they read."""
    return [(fresh[name], tuple([sources[source] for source in read]), table) for name, read, table in circuit[1]]


def closed_circuit(module, surrounding):
    """Return the circuit that a module and a surrounding make together, and the dict from the gates of the latter."""
    if not is_module(module):
        raise InvalidModule("not a module")
    require_surrounding(ports_of(module), surrounding)
    inner, outputs = module
    outer, feeds, _ = surrounding
    names = [gate[0] for gate in inner[1]]
    many = len(inner[0]) + len(names) + len(outer[1])
    if many > MAX_GATES:
        raise TooMany(MAX_GATES)
    news = fresh_names(many, {})
    # Each input port becomes a buffer, so that a port that is led back to itself is a gate, too.
    own = {name: new for name, new in zip(list(inner[0]) + names, news)}
    shown = {gate[0]: new for gate, new in zip(outer[1], news[len(own):])}
    sources = {**shown, **{port: own[name] for port, name in outputs}}
    gates = [(own[port], (sources[feeds[port]],), BUFFER) for port in inner[0]]
    gates.extend(renamed_gates(inner, own, own))
    gates.extend(renamed_gates(outer, shown, sources))
    return ((), tuple(gates)), shown


def same_ports(first, second):
    """Return the ports of two parts, or raise InvalidOperation if they differ."""
    ports = ports_of(first)
    if ports_of(second) != ports:
        raise InvalidOperation("the ports differ")
    return ports


def rows_of(part):
    """Return the tuple of the answers of what is known to be a module or a behaviour."""
    return computed_behaviour(part)[2] if len(part) == 2 else part[2]


def showing(ports, number, output):
    """Return the surrounding in which a part has the row with this number, and a gate reads an output port."""
    inputs, outputs = ports
    names = fresh_names(len(inputs) + 1, {port: True for port in outputs})
    gates = []
    for name in names[:len(inputs)][::-1]:
        value = number % 3
        number = number // 3
        # A gate that reads nothing but itself is not derived.
        gates.append((name, (name,), BUFFER) if value == UNKNOWN else (name, (), (value,)))
    gates.reverse()
    gates.append((names[-1], (output,), BUFFER))
    feeds = {port: name for port, name in zip(inputs, names)}
    return ((outputs, tuple(gates)), feeds, names[-1])


def separating(first, second):
    """Return a surrounding in which the parts have unlike results, or None."""
    ports = same_ports(first, second)
    for number, (mine, other) in enumerate(zip(rows_of(first), rows_of(second))):
        for output, value, unlike in zip(ports[1], mine, other):
            if value != unlike:
                return showing(ports, number, output)
    return None


def is_separating(first, second, value):
    """Return whether the value is a surrounding in which the parts have unlike results."""
    ports = same_ports(first, second)
    if not has_surrounding_form(ports, value):
        return False
    return closed_value(first, ports, value) != closed_value(second, ports, value)
