"""Signals, which are expressions, and equations, which make circuits."""

from loopgates.base.names import UNKNOWN, is_bit, is_name, is_value
from loopgates.base.tables import primes_of
from loopgates.circuits.circuits import MAX_GATES, MAX_INPUTS, require_circuit
from loopgates.circuits.fresh import fresh_names
from loopgates.errors import InvalidNumber, InvalidOperation, InvalidSetting, ParseError, TooMany
from loopgates.text.postfix import BITS, MOST_SIGNS, RESULTS, names_in, parsed, valued, written

MOST_CHARACTERS = 1000
BUFFER = (0, 1)
# The tables of the signs for which there are gates.
SIGN_TABLES = {"0": (0,), "1": (1,), "~": (1, 0), "&": (0, 0, 0, 1), "^": (0, 1, 1, 0), "|": (0, 1, 1, 1)}


def limited(signs):
    """Return the expression, or raise TooMany if it is too large."""
    if len(signs) > MOST_SIGNS:
        raise TooMany(MOST_SIGNS)
    return signs


def require_signal(value):
    """Raise InvalidOperation if it is not a signal."""
    if not isinstance(value, Signal):
        raise InvalidOperation("not a signal")


class Signal:
    """An expression of names and bits; it never changes."""

    def __init__(self, signs):
        self._signs = signs

    @classmethod
    def variable(cls, name):
        """Return the signal that is a name."""
        if not is_name(name):
            raise InvalidOperation("not a name")
        return cls((name,))

    @classmethod
    def bit(cls, bit):
        """Return the signal that is a bit."""
        if not is_bit(bit):
            raise InvalidNumber(bit)
        return cls((str(bit),))

    @classmethod
    def read(cls, text):
        """Return the signal with this text."""
        signs = parsed(text) if type(text) is str and len(text) <= MOST_CHARACTERS else None
        if signs is None:
            raise ParseError("not the text of a signal")
        return cls(signs)

    @property
    def names(self):
        """The ascending tuple of the names."""
        return names_in(self._signs)

    @property
    def size(self):
        """The number of the names, bits and operators."""
        return len(self._signs)

    def __and__(self, other):
        require_signal(other)
        return Signal(limited(self._signs + other._signs + ("&",)))

    def __or__(self, other):
        require_signal(other)
        return Signal(limited(self._signs + other._signs + ("|",)))

    def __xor__(self, other):
        require_signal(other)
        return Signal(limited(self._signs + other._signs + ("^",)))

    def __invert__(self):
        return Signal(limited(self._signs + ("~",)))

    def __call__(self, values):
        """Return the value for a dict that has at least the names."""
        if type(values) is not dict:
            raise InvalidSetting("not a dict")
        for name in values:
            if not is_name(name) or not is_value(values[name]):
                raise InvalidSetting("not a dict from names to values")
        if [name for name in self.names if name not in values]:
            raise InvalidSetting("not a dict with all names of the signal")
        return valued(self._signs, values)

    def __eq__(self, other):
        return isinstance(other, Signal) and self._signs == other._signs

    def __str__(self):
        return str(written(self._signs))

    def signs(self):
        """Return the tuple of the signs, each operator behind its operands."""
        return self._signs


def read_equations(equations):
    """Return a dict from the names to the expressions, ascending; raise the errors for what is no such dict."""
    if type(equations) is not dict or [name for name in equations if not is_name(name)]:
        raise InvalidOperation("not a dict from names")
    for worth in list(equations.values()):
        if type(worth) is not str and not isinstance(worth, Signal):
            raise InvalidOperation("neither a signal nor a text")
    found = {}
    for name in sorted(equations):
        worth = equations[name]
        signal = Signal.read(worth) if type(worth) is str else worth
        found[name] = signal.signs()
    return found


def count_gates(signs):
    """Return the number of the gates of an expression."""
    return max(1, len([sign for sign in signs if sign in SIGN_TABLES]))


def gates_of(name, signs, inner):
    """Return the list of the gates of an expression under this name; the inner ones get the last of a list of names."""
    if signs[-1] not in SIGN_TABLES:
        return [(name, signs, BUFFER)]
    gates = []
    stack = []
    for at, sign in enumerate(signs):
        if sign not in SIGN_TABLES:
            stack.append(sign)
            continue
        many = 0 if sign in BITS else 2 if sign in RESULTS else 1
        sources = tuple(stack[len(stack) - many:])
        del stack[len(stack) - many:]
        own = name if at == len(signs) - 1 else inner.pop()
        gates.append((own, sources, SIGN_TABLES[sign]))
        stack.append(own)
    return gates


def compiled(**equations):
    """Return the circuit of these equations."""
    return compiled_from(equations)


def compiled_from(equations):
    """Return the circuit of a dict of equations."""
    found = read_equations(equations)
    known = {name: True for name in found}
    inputs = {name: True for signs in list(found.values()) for name in names_in(signs) if name not in known}
    if len(inputs) > MAX_INPUTS:
        raise TooMany(MAX_INPUTS)
    many = sum([count_gates(signs) for signs in list(found.values())])
    if many > MAX_GATES:
        raise TooMany(MAX_GATES)
    inner = fresh_names(many - len(found), {**known, **inputs})
    gates = []
    for name in found:
        gates.extend(gates_of(name, found[name], inner))
    return (tuple(sorted(inputs)), tuple(sorted(gates)))


def row_signs(sources, row):
    """Return the expression that is 1 where the sources have the bits of a row of values."""
    signs = ()
    for source, value in zip(sources, row):
        if value != UNKNOWN:
            literal = (source,) if value else (source, "~")
            signs = signs + literal + ("&",) if signs else literal
    return signs or ("1",)


def forced_signs(sources, table):
    """Return the expression with the bits that a table forces.

    The or of all prime rows for 1 is 0 wherever 0 is forced: a row that
    agrees with one of them could still lead to 1.
    """
    signs = ()
    for row in primes_of(table, 1):
        own = row_signs(sources, row)
        signs = signs + own + ("|",) if signs else own
    return signs or ("0",)


def equations_of(circuit):
    """Return a dict of signals, one for each gate, whose circuit has the same known values."""
    require_circuit(circuit)
    return {name: Signal(forced_signs(sources, table)) for name, sources, table in circuit[1]}
