"""Settings of circuits, whole ones and partial ones."""

from loopgates.base.names import UNKNOWN, are_up_to
from loopgates.errors import InvalidSetting


def gives_inputs(circuit, value, most):
    """Return whether the value is a dict from exactly the inputs to integers from 0 to `most`."""
    inputs = circuit[0]
    if not isinstance(value, dict) or len(value) != len(inputs):
        return False
    for name in inputs:
        if name not in value:
            return False
    return are_up_to(list(value.values()), most)


def require_setting(circuit, setting):
    """Raise InvalidSetting if it is not a setting of the circuit."""
    if not gives_inputs(circuit, setting, 1):
        raise InvalidSetting("not a dict from exactly the inputs to bits")


def require_partial(circuit, setting):
    """Raise InvalidSetting if it is not a partial setting of the circuit."""
    if not gives_inputs(circuit, setting, UNKNOWN):
        raise InvalidSetting("not a dict from exactly the inputs to values")
