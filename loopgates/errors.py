"""The errors of the package."""


class CircuitError(ValueError):
    """Something that is passed has not the form that is asked for; it takes a message."""


class InvalidTable(CircuitError):
    """Not a table."""


class InvalidRow(CircuitError):
    """Not a row, or not one of the right length."""


class InvalidCircuit(CircuitError):
    """Not a circuit."""


class InvalidSetting(CircuitError):
    """Not a setting of the circuit."""


class InvalidState(CircuitError):
    """Not a state of the circuit."""


class InvalidStep(CircuitError):
    """Not a step, or not a loop of steps."""


class InvalidValues(CircuitError):
    """Not steady values, or not a derivation."""


class InvalidFormula(CircuitError):
    """Not a formula, or not what one is made of."""


class InvalidModule(CircuitError):
    """Not a module."""


class InvalidBehaviour(CircuitError):
    """Not a behaviour."""


class InvalidNet(CircuitError):
    """Not a net."""


class InvalidMachine(CircuitError):
    """Not a machine."""


class InvalidOperation(CircuitError):
    """An operation that cannot be carried out with what is passed."""


class InvalidEdit(CircuitError):
    """Not an edit."""


class ParseError(CircuitError):
    """A text that cannot be read."""


class InvalidCommand(CircuitError):
    """Not a command."""


class InvalidNumber(IndexError):
    """A number that is not possible here."""

    def __init__(self, value):
        self.value = value


class UnknownName(KeyError):
    """A name that nothing has here."""

    def __init__(self, name):
        self.name = name


class Conflict(RuntimeError):
    """A name that two things would have."""

    def __init__(self, name):
        self.name = name


class TooMany(OverflowError):
    """More than the limit."""

    def __init__(self, limit):
        self.limit = limit


class Flipping(ArithmeticError):
    """Something that should settle flips for ever, as the paper shows."""

    def __init__(self, paper):
        self.paper = paper


class NothingToUndo(LookupError):
    """Fewer than so many things can be taken back."""

    def __init__(self, many):
        self.many = many
