"""Loops in which all gates move that are not derived, and papers for settling."""

from loopgates.base.names import UNKNOWN, is_bit
from loopgates.base.tables import result_at
from loopgates.circuits.circuits import require_circuit, require_gate
from loopgates.circuits.settings import require_setting
from loopgates.errors import InvalidValues
from loopgates.runs.fair import fair_movers
from loopgates.runs.states import GATE
from loopgates.settling.causes import is_steady_dict
from loopgates.settling.derivations import derives, found_derivation
from loopgates.settling.known import gate_values


def rows_for_both(table, row):
    """Return two rows of bits that continue a row which forces nothing: one with the result 0, and one with 1."""
    rows = [()]
    for value in row:
        choices = (0, 1) if value == UNKNOWN else (value,)
        rows = [bits + (bit,) for bits in rows for bit in choices]
    results = [result_at(table, bits) for bits in rows]
    return rows[results.index(0)], rows[results.index(1)]


def loop_from(circuit, setting, values):
    """Return the loop in which exactly the gates with 2 in steady values move, or None if there are none.

    All wires that change have to wait for their source to have their new bit.
    So those that become 0 move while the sources are 0, and the others behind them.
    """
    given = {**setting, **values}
    taken = []
    early = []
    late = []
    for name, sources, table in circuit[1]:
        row = [given[source] for source in sources]
        if values[name] != UNKNOWN:
            taken.append(tuple([0 if value == UNKNOWN else value for value in row]))
            continue
        low, high = rows_for_both(table, row)
        taken.append(high)
        early.append((name, GATE))
        for wire, (old, new) in enumerate(zip(high, low)):
            if old > new:
                early.append((name, wire))
            elif old < new:
                late.append((name, wire))
    own = tuple([0 if values[gate[0]] == UNKNOWN else values[gate[0]] for gate in circuit[1]])
    half = (tuple(early), tuple(late)) if late else (tuple(early),)
    return ((own, tuple(taken)), half + half) if early else None


def flipping_loop(circuit, setting, *, values=None):
    """Return a fair loop of at most four steps in which exactly the gates with 2 in the steady values move, or None."""
    require_circuit(circuit)
    require_setting(circuit, setting)
    if values is None:
        return loop_from(circuit, setting, gate_values(circuit, setting))
    if not is_steady_dict(circuit, setting, values):
        raise InvalidValues("not steady values")
    return loop_from(circuit, setting, values)


def settling_paper(circuit, setting, gate):
    """Return a settling paper of the gate."""
    require_circuit(circuit)
    require_setting(circuit, setting)
    require_gate(circuit, gate)
    return found_paper(circuit, setting, gate)


def found_paper(circuit, setting, gate):
    """Return a settling paper of what is known to be a gate."""
    values = gate_values(circuit, setting)
    if values[gate] == UNKNOWN:
        return ("flips", loop_from(circuit, setting, values))
    return ("settles", values[gate], found_derivation(circuit, setting, gate))


def is_settling_paper(circuit, setting, gate, value):
    """Return whether the value is a settling paper of the gate."""
    require_circuit(circuit)
    require_setting(circuit, setting)
    require_gate(circuit, gate)
    if type(value) is not tuple or len(value) not in (2, 3):
        return False
    if len(value) == 2:
        kind, loop = value
        return kind == "flips" and gate in (fair_movers(circuit, setting, loop) or ())
    kind, bit, lines = value
    return kind == "settles" and is_bit(bit) and derives(circuit, setting, gate, lines) and lines[-1][1] == bit
