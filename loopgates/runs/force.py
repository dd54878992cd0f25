"""Search by states: those of rest, and those that last."""

from loopgates.base.masks import numbers_in, numbers_of, ones_mask, row_masks
from loopgates.base.names import UNKNOWN
from loopgates.circuits.circuits import require_circuit
from loopgates.circuits.settings import require_setting
from loopgates.errors import TooMany
from loopgates.settling.known import all_values, gate_values

MAX_REST_GATES = 12
MAX_LASTING_NODES = 8
# The bits of what has a value.
CHOICES = ((0,), (1,), (0, 1))
# So many states of rest are made one by one, more of them together.
FEW = 3
MANY = 64
# The masks of all rows of so many bits where each bit is 0 and where it is 1, the first one first; and of all rows.
SMALL_MASKS = (
    ((), 1),
    (((1, 2),), 3),
    (((3, 12), (5, 10)), 15),
    (((15, 240), (51, 204), (85, 170)), 255),
    (((255, 65280), (3855, 61680), (13107, 52428), (21845, 43690)), 65535),
    (
        (
            (65535, 4294901760), (16711935, 4278255360), (252645135, 4042322160), (858993459, 3435973836),
            (1431655765, 2863311530),
        ),
        4294967295,
    ),
    (
        (
            (4294967295, 18446744069414584320), (281470681808895, 18446462603027742720),
            (71777214294589695, 18374966859414961920), (1085102592571150095, 17361641481138401520),
            (3689348814741910323, 14757395258967641292), (6148914691236517205, 12297829382473034410),
        ),
        18446744073709551615,
    ),
)


def bit_masks(many):
    """Return the masks of the rows of so many bits, and the mask of all of them."""
    return SMALL_MASKS[many] if many < len(SMALL_MASKS) else row_masks(many, 2)


def rest_mask(circuit, setting):
    """Return the mask of the rows of bits of the gates with which each gate has its wish."""
    inputs, gates = circuit
    pairs, full = bit_masks(len(gates))
    masks = {}
    for name in inputs:
        masks[name] = (0, full) if setting[name] else (full, 0)
    for gate, pair in zip(gates, pairs):
        masks[gate[0]] = pair
    right = full
    for name, sources, table in gates:
        right = right & ~(ones_mask(table, sources, masks, full) ^ masks[name][1])
        if not right:
            return 0
    return right


def single_state(circuit, setting, number):
    """Return the state of rest with these bits of the gates: all wires have the bits of their sources."""
    gates = circuit[1]
    given = {**setting}
    shift = len(gates)
    own = []
    for gate in gates:
        shift -= 1
        bit = number >> shift & 1
        own.append(bit)
        given[gate[0]] = bit
    return (tuple(own), tuple([tuple([given[source] for source in sources]) for _, sources, _ in gates]))


def several_states(circuit, setting, numbers):
    """Return the list of the states of rest with these bits of the gates."""
    gates = circuit[1]
    many = len(numbers)
    columns = {name: [setting[name]] * many for name in circuit[0]}
    shift = len(gates)
    for gate in gates:
        shift -= 1
        columns[gate[0]] = [number >> shift & 1 for number in numbers]
    taken = []
    for _, sources, _ in gates:
        read = [columns[source] for source in sources]
        taken.append(list(zip(*read)) if read else [()] * many)
    own = [columns[gate[0]] for gate in gates]
    return list(zip(list(zip(*own)), list(zip(*taken))))


def rest_states(circuit, setting):
    """Yield all states in which nothing is excited, ascending."""
    require_circuit(circuit)
    require_setting(circuit, setting)
    if len(circuit[1]) > MAX_REST_GATES:
        raise TooMany(MAX_REST_GATES)
    # The caller may change the setting between two states.
    inputs = {**setting}
    numbers = numbers_of(rest_mask(circuit, inputs))
    if len(numbers) <= FEW:
        for number in numbers:
            yield single_state(circuit, inputs, number)
    else:
        for at in range(0, len(numbers), MANY):
            for state in several_states(circuit, inputs, numbers[at:at + MANY]):
                yield state


def free_parts(circuit, values):
    """Return the ascending lists of the bits that all gates, and all wires, can have in states that last.

    What is derived has its bit, and so have wires that read it or an input.
    All other nodes are free.
    """
    own = [()]
    taken = [()]
    for name, sources, _ in circuit[1]:
        own = [bits + (bit,) for bits in own for bit in CHOICES[values[name]]]
        rows = [()]
        for source in sources:
            rows = [row + (bit,) for row in rows for bit in CHOICES[values[source]]]
        taken = [read + (row,) for read in taken for row in rows]
    return own, taken


def free_wishes(circuit, values):
    """Return the wishes of the free gates by the number of the bits of the free wires, and those of these wires.

    The latter stand by the number of the bits of the free gates. Such a
    number has the bits as its digits, the first one first.
    """
    wishes = [0]
    read = []
    for name, sources, table in circuit[1]:
        positions = [0]
        for source in sources:
            positions = [position + position + bit for position in positions for bit in CHOICES[values[source]]]
            if values[source] == UNKNOWN:
                read.append(source)
        if values[name] == UNKNOWN:
            wishes = [wish + wish + table[position] for wish in wishes for position in positions]
        elif len(positions) > 1:
            wishes = [wish for wish in wishes for _ in positions]
    wanted = [0]
    for gate in circuit[1]:
        if values[gate[0]] == UNKNOWN:
            fan = 0
            for source in read:
                fan = fan + fan + (1 if source == gate[0] else 0)
            wanted = [wish | more for wish in wanted for more in (0, fan)]
    return wishes, wanted


def excited_sets(wishes, wanted):
    """Return the list of the sets of the excited nodes of all states of the free nodes.

    A state is the number of the bits of the free gates and, behind them, of
    the free wires; a set has a digit for each of these nodes.
    """
    many = len(wishes)
    return [
        (own ^ wish) * many | taken ^ want for own, want in enumerate(wanted) for taken, wish in enumerate(wishes)]


def is_fair_set(members, excited):
    """Return whether each node is not excited in one of these strongly connected states, or moves between them.

    A node that has both bits in them moves on the way from one to the other.
    """
    first = members[0]
    always = excited[first]
    moving = 0
    for number in members:
        always = always & excited[number]
        moving = moving | number ^ first
    return not always & ~moving


def fair_numbers(excited):
    """Return the ascending list of the states in the strongly connected sets that are fair."""
    # For each set of nodes all sets of some of them, as a mask of numbers.
    subsets = [1]
    while len(subsets) < len(excited):
        subsets = subsets + [mask | mask << len(subsets) for mask in subsets]
    found = 0
    done = 0
    for root in range(len(excited)):
        if done >> root & 1:
            continue
        # A path of strongly connected sets, each with what its states lead to; the last one stands alone.
        path = []
        held = 0
        group = 1 << root
        following = subsets[excited[root]] << (root & ~excited[root])
        while group:
            fresh = following & ~group & ~done
            if not fresh:
                done = done | group
                if is_fair_set(numbers_in(group), excited):
                    found = found | group
                group, following = path.pop() if path else (0, 0)
                held = held & ~group
            elif fresh & held:
                while fresh & held:
                    earlier, more = path.pop()
                    held = held & ~earlier
                    group = group | earlier
                    following = following | more
            else:
                path.append((group, following))
                held = held | group
                group = fresh & -fresh
                number = group.bit_length() - 1
                following = subsets[excited[number]] << (number & ~excited[number])
    return numbers_in(found)


def require_few_nodes(circuit):
    """Raise TooMany if there are too many nodes to go through all states."""
    gates = circuit[1]
    if len(gates) + sum([len(gate[1]) for gate in gates]) > MAX_LASTING_NODES:
        raise TooMany(MAX_LASTING_NODES)


def lasting_states(circuit, setting):
    """Return the ascending tuple of all states that last."""
    require_circuit(circuit)
    require_setting(circuit, setting)
    require_few_nodes(circuit)
    values = all_values(circuit, setting)
    own, taken = free_parts(circuit, values)
    many = len(taken)
    if len(own) * many == 1:
        return ((own[0], taken[0]),)
    wishes, wanted = free_wishes(circuit, values)
    numbers = fair_numbers(excited_sets(wishes, wanted))
    return tuple([(own[number // many], taken[number & many - 1]) for number in numbers])


def lasting_bits(circuit, setting):
    """Return a dict from each gate to the ascending tuple of the bits that it has in the states that last."""
    require_circuit(circuit)
    require_setting(circuit, setting)
    require_few_nodes(circuit)
    # A gate that is not derived moves in a fair loop, so it has both bits in states that last.
    values = gate_values(circuit, setting)
    return {name: CHOICES[values[name]] for name in values}
