"""Settings of circuits, whole ones and partial ones."""

from loopgates.base.names import UNKNOWN
from loopgates.errors import InvalidSetting


def gives_inputs(inputs, value, most):
    """Return whether the value is a dict from exactly these inputs to integers from 0 to `most`."""
    if type(value) is not dict or len(value) != len(inputs):
        return False
    for name in inputs:
        if name not in value:
            return False
        item = value[name]
        if type(item) is not int or item < 0 or item > most:
            return False
    return True


def require_setting(circuit, setting):
    """Raise InvalidSetting if it is not a setting of the circuit."""
    if not gives_inputs(circuit[0], setting, 1):
        raise InvalidSetting("not a dict from exactly the inputs to bits")


def require_partial(circuit, setting):
    """Raise InvalidSetting if it is not a partial setting of the circuit."""
    if not gives_inputs(circuit[0], setting, UNKNOWN):
        raise InvalidSetting("not a dict from exactly the inputs to values")
