"""Texts of tables, circuits, settings and lines of derivations."""

from loopgates.base.names import is_ascending, is_bit, is_integer, is_name, is_value
from loopgates.base.tables import MAX_WIRES, is_table, require_table
from loopgates.circuits.circuits import is_circuit, require_circuit
from loopgates.errors import InvalidSetting, InvalidValues, ParseError

DIGITS = {"0": 0, "1": 1, "2": 2, "3": 3}
VALUE_SIGNS = ("0", "1", "?")
SIGN_VALUES = {"0": 0, "1": 1, "?": 2}
NOTHING = "-"


def table_text(table):
    """Return the text of what is known to be a table."""
    return "".join([str(bit) for bit in table])


def read_table(text):
    """Return the table of a text, or None."""
    table = tuple([DIGITS.get(sign) for sign in text])
    return table if is_table(table) else None


def format_table(table):
    """Return the text of a table."""
    require_table(table)
    return table_text(table)


def parse_table(text):
    """Return the table with this text."""
    table = read_table(text) if type(text) is str else None
    if table is None:
        raise ParseError("not the text of a table")
    return table


def circuit_text(circuit, between):
    """Return the text of what is known to be a circuit, with this between its lines."""
    lines = [" ".join(["inputs", *circuit[0]])]
    for name, sources, table in circuit[1]:
        lines.append(" ".join([name, table_text(table), *sources]))
    return between.join(lines)


def format_circuit(circuit):
    """Return the text of a circuit."""
    require_circuit(circuit)
    return circuit_text(circuit, "\n")


def parse_circuit(text):
    """Return the circuit with this text."""
    lines = [line.split(" ") for line in text.split("\n")] if type(text) is str else [[""]]
    first, *others = lines
    gates = tuple([(parts[0], tuple(parts[2:]), read_table(parts[1])) for parts in others if len(parts) > 1])
    circuit = (tuple(first[1:]), gates)
    if first[0] != "inputs" or len(gates) < len(others) or not is_circuit(circuit):
        raise ParseError("not the text of a circuit")
    return circuit


def values_text(values):
    """Return the text of what is known to be a dict from names to values."""
    return " ".join([f"{name}={VALUE_SIGNS[values[name]]}" for name in sorted(values)]) or NOTHING


def format_setting(setting):
    """Return the text of a dict from names to values."""
    if type(setting) is not dict or [name for name in setting if not is_name(name) or not is_value(setting[name])]:
        raise InvalidSetting("not a dict from names to values")
    return values_text(setting)


def parse_setting(text):
    """Return the dict from names to values with this text."""
    if type(text) is not str:
        raise ParseError("not a string")
    found = {}
    for part in [] if text == NOTHING else text.split(" "):
        name, _, sign = part.partition("=")
        if not is_name(name) or sign not in SIGN_VALUES:
            raise ParseError("not the text of a setting")
        found[name] = SIGN_VALUES[sign]
    # A name twice, or out of order, would be written otherwise.
    if values_text(found) != text:
        raise ParseError("not the text of a setting")
    return found


def is_line(value):
    """Return whether the value is a triple of a name, a bit and an ascending tuple of numbers from 0 to 3."""
    if type(value) is not tuple or len(value) != 3 or not is_name(value[0]) or not is_bit(value[1]):
        return False
    if type(value[2]) is not tuple:
        return False
    for wire in value[2]:
        if not is_integer(wire) or not 0 <= wire < MAX_WIRES:
            return False
    return is_ascending(value[2])


def lines_text(lines):
    """Return the text of what are known to be lines."""
    found = [" ".join([name, str(bit), *[str(wire) for wire in wires]]) for name, bit, wires in lines]
    return "; ".join(found) or NOTHING


def format_lines(lines):
    """Return the text of a tuple of lines."""
    if type(lines) is not tuple or [line for line in lines if not is_line(line)]:
        raise InvalidValues("not a tuple of lines")
    return lines_text(lines)


def parse_lines(text):
    """Return the tuple of lines with this text."""
    if type(text) is not str:
        raise ParseError("not a string")
    found = []
    for part in [] if text == NOTHING else text.split("; "):
        name, *digits = part.split(" ")
        numbers = [DIGITS.get(digit) for digit in digits]
        line = (name, numbers[0] if numbers else None, tuple(numbers[1:]))
        if not is_line(line):
            raise ParseError("not the text of lines")
        found.append(line)
    return tuple(found)
