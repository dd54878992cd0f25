"""Known values at many settings at once: masks of the settings at which inputs and gates are 0, and are 1."""

from collections import deque

from loopgates.base.masks import forced_masks
from loopgates.circuits.loops import is_looping, mutual_groups, read_numbers


def solved_masks(circuit, given, full):
    """Return a dict from inputs and gates to the masks where they are 0 and where they are 1.

    `given` has these masks for the inputs; rows that are in neither of the
    two are those with 2.
    """
    gates = circuit[1]
    reads = read_numbers(circuit)
    masks = {name: given[name] for name in circuit[0]}
    for gate in gates:
        masks[gate[0]] = (0, 0)
    # Each part comes after all that it reads, so that its own gates are all that can still change.
    for group in mutual_groups(reads):
        if is_looping(reads, group):
            solve_part(gates, reads, group, masks, full)
        else:
            name, sources, table = gates[group[0]]
            masks[name] = forced_masks(table, [masks[source] for source in sources], full)
    return masks


def solve_part(gates, reads, group, masks, full):
    """Put the masks of the gates of a part with loops in the dict."""
    reading = {at: [] for at in group}
    for at in group:
        for other in reads[at]:
            if other in reading and at not in reading[other]:
                reading[other].append(at)
    queue = deque(group)
    waiting = {at: True for at in group}
    while queue:
        at = queue.popleft()
        waiting[at] = False
        name, sources, table = gates[at]
        found = forced_masks(table, [masks[source] for source in sources], full)
        if found != masks[name]:
            masks[name] = found
            for reader in reading[at]:
                if not waiting[reader]:
                    waiting[reader] = True
                    queue.append(reader)


def input_masks(inputs, pairs):
    """Return a dict from the inputs to the pairs of their masks."""
    return {name: pair for name, pair in zip(inputs, pairs)}
