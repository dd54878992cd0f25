"""Edits of circuits: their forms, and what comes of them."""

from loopgates.base.names import UNKNOWN, is_name, is_value
from loopgates.base.tables import is_table
from loopgates.circuits.circuits import require_circuit
from loopgates.errors import Conflict, InvalidEdit, UnknownName

# The number of parts of each kind of edit.
EDIT_SIZES = {"gate": 4, "remove": 2, "input": 2, "lose": 2, "set": 3}


def is_edit(value):
    """Return whether the value has the form of an edit."""
    if type(value) is not tuple or len(value) < 2 or type(value[0]) is not str:
        return False
    kind = value[0]
    if kind not in EDIT_SIZES or len(value) != EDIT_SIZES[kind] or not is_name(value[1]):
        return False
    if kind == "gate":
        return are_names(value[2]) and is_table(value[3])
    return kind != "set" or is_value(value[2])


def are_names(value):
    """Return whether the value is a tuple of names."""
    if type(value) is not tuple:
        return False
    for name in value:
        if not is_name(name):
            return False
    return True


def require_edits(edits):
    """Raise InvalidEdit if it is not a tuple of edits."""
    if type(edits) is not tuple:
        raise InvalidEdit("not a tuple of edits")
    for edit in edits:
        if not is_edit(edit):
            raise InvalidEdit("not an edit")


def require_in(names, name):
    """Raise UnknownName if the name is not in a dict."""
    if name not in names:
        raise UnknownName(name)


def require_free(names, name):
    """Raise Conflict if the name is in a dict."""
    if name in names:
        raise Conflict(name)


def do_edit(edit, inputs, gates):
    """Do an edit, with a dict of the values of the inputs and one of the sources and tables of the gates."""
    kind = edit[0]
    name = edit[1]
    if kind == "gate":
        require_free(inputs, name)
        gates[name] = (edit[2], edit[3])
    elif kind == "remove":
        require_in(gates, name)
        del gates[name]
    elif kind == "input":
        require_free(inputs, name)
        require_free(gates, name)
        inputs[name] = UNKNOWN
    else:
        require_in(inputs, name)
        if kind == "lose":
            del inputs[name]
        else:
            inputs[name] = edit[2]


def edited(circuit, setting, edits):
    """Return the circuit and the setting that come of edits, or raise the errors for edits that cannot be done."""
    inputs = {**setting}
    if not [edit for edit in edits if edit[0] != "set"]:
        for edit in edits:
            do_edit(edit, inputs, {})
        return circuit, inputs
    gates = {name: (sources, table) for name, sources, table in circuit[1]}
    for edit in edits:
        do_edit(edit, inputs, gates)
    made = [(name, gates[name][0], gates[name][1]) for name in sorted(gates)]
    circuit = (tuple(sorted(inputs)), tuple(made))
    require_circuit(circuit)
    return circuit, {name: inputs[name] for name in circuit[0]}
