"""Circuits without loops that are right wherever gates of other circuits settle."""

from loopgates.base.masks import first_in, forced_masks
from loopgates.base.names import is_integer
from loopgates.circuits.circuits import MAX_GATES, is_circuit, require_circuit, require_name
from loopgates.circuits.fresh import fresh_names
from loopgates.circuits.loops import is_looping, looping_numbers, ordered_groups, read_numbers
from loopgates.errors import InvalidCircuit, InvalidNumber, InvalidOperation, TooMany
from loopgates.formulas.formulas import row_bits
from loopgates.formulas.settles import made_formula, settle_masks


def copied(circuit, many_of):
    """Return the unrolling by copies; `many_of` has the number of copies of each gate that is on a loop."""
    gates = circuit[1]
    if not many_of:
        return circuit, {gate[0]: gate[0] for gate in gates}
    reads = read_numbers(circuit)
    many = 1 + sum([many_of.get(at, 1) for at in range(len(gates))])
    if many > MAX_GATES:
        raise TooMany(MAX_GATES)
    names = fresh_names(many, {name: True for name in circuit[0]})
    made = [(names[0], (), (0,))]
    last = {name: name for name in circuit[0]}
    for group in ordered_groups(reads):
        copies = many_of.get(group[0], 1)
        before = {gates[at][0]: names[0] for at in group} if is_looping(reads, group) else {}
        for _ in range(copies):
            fresh = {gates[at][0]: names[len(made) + k] for k, at in enumerate(group)}
            for at in group:
                name, sources, table = gates[at]
                made.append((fresh[name], tuple([before.get(source, last.get(source)) for source in sources]), table))
            if before:
                before = fresh
            last.update(fresh)
    return (circuit[0], tuple(made)), {gate[0]: last[gate[0]] for gate in gates}


def looping_groups(reads):
    """Return the list of the parts with loops."""
    return [group for group in ordered_groups(reads) if is_looping(reads, group)]


def unrolled(circuit):
    """Return an unrolling of the circuit."""
    require_circuit(circuit)
    many_of = {at: len(group) for group in looping_groups(read_numbers(circuit)) for at in group}
    return copied(circuit, many_of)


def unrolled_by(circuit, copies):
    """Return the pair that comes by so many copies of each part with loops, an unrolling or not."""
    require_circuit(circuit)
    if not is_integer(copies) or not 1 <= copies <= MAX_GATES:
        raise InvalidNumber(copies)
    return copied(circuit, {at: copies for at in looping_numbers(read_numbers(circuit))})


def is_right(settled, ones):
    """Return whether a mask of ones agrees with the masks of the settings at which a gate is derived with 0 and 1."""
    return not settled[0] & ones and not settled[1] & ~ones


def has_plain_form(circuit, value):
    """Return whether the value is a pair of a circuit without loops and a dict from the gates to its names."""
    if type(value) is not tuple or len(value) != 2:
        return False
    plain, names = value
    if not is_circuit(plain) or plain[0] != circuit[0] or looping_numbers(read_numbers(plain)):
        return False
    if type(names) is not dict or len(names) != len(circuit[1]):
        return False
    known = {name: True for name in plain[0]}
    known.update({gate[0]: True for gate in plain[1]})
    for gate in circuit[1]:
        if gate[0] not in names:
            return False
        name = names[gate[0]]
        if type(name) is not str or name not in known:
            return False
    return True


def is_unrolling(circuit, value):
    """Return whether the value is an unrolling of the circuit."""
    require_circuit(circuit)
    if not has_plain_form(circuit, value):
        return False
    plain, names = value
    settled = settle_masks(circuit)[0]
    bits = settle_masks(plain)[0]
    for gate in circuit[1]:
        if not is_right(settled[gate[0]], bits[names[gate[0]]][1]):
            return False
    return True


def next_copy(gates, group, ones, before, full):
    """Return a dict from the gates of a part to the masks of ones of a copy that reads the copy before it."""
    found = {}
    for at in group:
        name, sources, table = gates[at]
        wires = [before[source] if source in before else ones[source] for source in sources]
        found[name] = forced_masks(table, [(full ^ mask, mask) for mask in wires], full)[1]
    return found


def outer_masks(gates, group, ones):
    """Return the list of the masks of the sources of a part that are not its own gates."""
    own = {gates[at][0]: True for at in group}
    return [ones[source] for at in group for source in gates[at][1] if source not in own]


def has_right_copies(circuit, groups, reads, many, kept, settled, full):
    """Return whether so many copies of each part with loops give an unrolling.

    `kept` has what the parts with loops read with one copy less, and their
    last copies then, so that mostly only one more copy is worked out.
    """
    gates = circuit[1]
    ones = {name: settled[name][1] for name in circuit[0]}
    for group in groups:
        if is_looping(reads, group):
            outer = outer_masks(gates, group, ones)
            zero = {gates[at][0]: 0 for at in group}
            read, copy, done = kept.get(group[0], (outer, zero, 0))
            if read != outer:
                copy = zero
                done = 0
            for _ in range(many - done):
                copy = next_copy(gates, group, ones, copy, full)
            kept[group[0]] = (outer, copy, many)
        else:
            copy = next_copy(gates, group, ones, {}, full)
        for name in copy:
            if not is_right(settled[name], copy[name]):
                return False
        ones.update(copy)
    return True


def least_copies(circuit):
    """Return the least number of copies with which `unrolled_by` gives an unrolling."""
    require_circuit(circuit)
    reads = read_numbers(circuit)
    settled, full = settle_masks(circuit)
    groups = ordered_groups(reads)
    kept = {}
    many = 1
    while not has_right_copies(circuit, groups, reads, many, kept, settled, full):
        many += 1
    return many


def require_plain(circuit):
    """Raise InvalidOperation if the circuit has loops."""
    if looping_numbers(read_numbers(circuit)):
        raise InvalidOperation("the circuit has loops")


def gate_formulas(circuit):
    """Return a dict from the gates of a circuit without loops to the formulas of the settings at which they are 1."""
    require_circuit(circuit)
    require_plain(circuit)
    masks = settle_masks(circuit)[0]
    return {gate[0]: made_formula(circuit[0], masks[gate[0]][1]) for gate in circuit[1]}


def first_difference(first, second, names):
    """Return the first setting at which one of the names has unlike bits in two circuits without loops, or None."""
    for circuit in (first, second):
        if not is_circuit(circuit):
            raise InvalidCircuit("not a circuit")
    if type(names) is not tuple:
        raise InvalidOperation("not a tuple of names")
    for name in names:
        require_name(first, name)
        require_name(second, name)
    require_plain(first)
    require_plain(second)
    if first[0] != second[0]:
        raise InvalidOperation("the inputs differ")
    mine = settle_masks(first)[0]
    other = settle_masks(second)[0]
    unlike = 0
    for name in names:
        unlike = unlike | mine[name][1] ^ other[name][1]
    return row_bits(first[0], first_in(unlike)) if unlike else None
