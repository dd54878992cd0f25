"""How many: numbers that say how often something is done."""

from loopgates.base.names import is_integer
from loopgates.errors import InvalidNumber, NothingToUndo


def require_many(many, most):
    """Raise InvalidNumber if it is not an integer from 0 to `most`; None stands for no limit."""
    if not is_integer(many) or many < 0 or (most is not None and many > most):
        raise InvalidNumber(many)


def require_undoable(many, most):
    """Raise the errors for what is no number of things that can be taken back, of which there are `most`."""
    require_many(many, None)
    if many > most:
        raise NothingToUndo(many)
