"""Formulas of the settings at which gates settle."""

from loopgates.base.masks import first_in, row_masks
from loopgates.base.names import is_bit
from loopgates.circuits.circuits import part_read, require_circuit, require_gate
from loopgates.errors import InvalidNumber
from loopgates.formulas.formulas import Formula, row_bits
from loopgates.formulas.truth import reduced
from loopgates.settling.many import input_masks, solved_masks


def settle_masks(circuit):
    """Return a dict from inputs and gates to the masks of the settings with 0 and with 1, and the mask of all."""
    pairs, full = row_masks(len(circuit[0]), 2)
    return solved_masks(circuit, input_masks(circuit[0], pairs), full), full


def made_formula(names, mask):
    """Return the formula of a mask of settings of these names."""
    kept, own = reduced(names, mask)
    return Formula(kept, own)


def settles_formula(circuit, gate, bit):
    """Return the formula of the settings at which the gate is derived with the bit."""
    require_circuit(circuit)
    require_gate(circuit, gate)
    if not is_bit(bit):
        raise InvalidNumber(bit)
    part = part_read(circuit, (gate,))
    return made_formula(part[0], settle_masks(part)[0][gate][bit])


def settles_formulas(circuit):
    """Return a dict from all pairs of a gate and a bit to the formulas of the settings where it is derived so."""
    require_circuit(circuit)
    masks = settle_masks(circuit)[0]
    return {(gate[0], bit): made_formula(circuit[0], masks[gate[0]][bit]) for gate in circuit[1] for bit in (0, 1)}


def asked_gates(circuit, gates):
    """Return the gates that are asked for, all gates if none are; raise the errors for both arguments."""
    require_circuit(circuit)
    for gate in gates:
        require_gate(circuit, gate)
    return gates or tuple([gate[0] for gate in circuit[1]])


def settled_formula(circuit, *gates):
    """Return the formula of the settings at which all these gates are derived."""
    names = asked_gates(circuit, gates)
    part = part_read(circuit, names)
    masks, settled = settle_masks(part)
    for name in names:
        settled = settled & (masks[name][0] | masks[name][1])
    return made_formula(part[0], settled)


def first_unsettled(circuit, *gates):
    """Return the first setting at which one of these gates is not derived, and the least such gate; or None."""
    names = asked_gates(circuit, gates)
    masks, full = settle_masks(circuit)
    unsettled = {name: full ^ (masks[name][0] | masks[name][1]) for name in names}
    whole = 0
    for name in unsettled:
        whole = whole | unsettled[name]
    if not whole:
        return None
    number = first_in(whole)
    return row_bits(circuit[0], number), min([name for name in unsettled if unsettled[name] >> number & 1])
