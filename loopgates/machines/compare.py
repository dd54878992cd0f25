"""Machines compared: histories that separate them, likenesses, and plain tables."""

from loopgates.base.names import is_ascending, is_bit_row
from loopgates.errors import Flipping, InvalidOperation
from loopgates.machines.classes import numbered, refined, united
from loopgates.machines.forms import input_names, output_ports
from loopgates.machines.machines import require_machine
from loopgates.machines.reach import paper_of_flip
from loopgates.machines.space import Reach, Space, rows_back


def settled_reach(machine):
    """Return what a machine reaches, or raise Flipping if it flips."""
    reach = Reach(machine)
    if reach.flip is not None:
        raise Flipping(paper_of_flip(machine, reach))
    return reach


def both_reaches(first, second):
    """Return what two machines reach; raise the errors for two machines that cannot be compared."""
    require_machine(first)
    require_machine(second)
    if input_names(first) != input_names(second) or output_ports(first) != output_ports(second):
        raise InvalidOperation("the inputs or the output ports differ")
    return settled_reach(first), settled_reach(second)


def parting_history(one, other):
    """Return the first separating history, by length and then ascending, or None."""
    many = len(one.reached)
    pairs = [(0, 0)]
    ways = [None]
    # Pairs that follow from earlier ones part no earlier, so they need not be looked at.
    roots = list(range(many + len(other.reached)))
    united(roots, 0, many)
    at = 0
    while at < len(pairs):
        mine, its = pairs[at]
        for row, left, right in zip(one.rows, one.moves[mine], other.moves[its]):
            if left[0] != right[0]:
                return rows_back(ways, at) + (row,)
            if united(roots, left[1], many + right[1]):
                pairs.append((left[1], right[1]))
                ways.append((at, row))
        at += 1
    return None


def separating_history(first, second):
    """Return the first separating history, by length and then ascending, or None."""
    one, other = both_reaches(first, second)
    return parting_history(one, other)


def least_likeness(first, second):
    """Return the likeness with the fewest pairs, or None."""
    one, other = both_reaches(first, second)
    if parting_history(one, other) is not None:
        return None
    seen = {(0, 0): True}
    waiting = [(0, 0)]
    while waiting:
        mine, its = waiting.pop()
        for left, right in zip(one.moves[mine], other.moves[its]):
            pair = (left[1], right[1])
            if pair not in seen:
                seen[pair] = True
                waiting.append(pair)
    return tuple(sorted([(one.reached[mine], other.reached[its]) for mine, its in seen]))


def are_state_pairs(value, lengths):
    """Return whether the value is an ascending tuple of pairs of rows of bits of these two lengths."""
    if type(value) is not tuple:
        return False
    for pair in value:
        if type(pair) is not tuple or len(pair) != 2:
            return False
        if not is_bit_row(pair[0], lengths[0]) or not is_bit_row(pair[1], lengths[1]):
            return False
    return is_ascending(value)


def results_by_state(machine, states):
    """Return a dict from the register states to the lists of the results of their ticks."""
    space = Space(machine)
    found = {}
    for state in states:
        if state not in found:
            found[state] = space.results(state)
    return found


def is_likeness(first, second, value):
    """Return whether the value is a likeness."""
    one, other = both_reaches(first, second)
    if not are_state_pairs(value, (len(first[1]), len(second[1]))):
        return False
    own = {pair: True for pair in value}
    if (one.reached[0], other.reached[0]) not in own:
        return False
    mine = results_by_state(first, [pair[0] for pair in value])
    its = results_by_state(second, [pair[1] for pair in value])
    for pair in value:
        for left, right in zip(mine[pair[0]], its[pair[1]]):
            if left is None or right is None or left[0] != right[0] or (left[1], right[1]) not in own:
                return False
    return True


def plain_table(machine):
    """Return the plain table."""
    require_machine(machine)
    reach = settled_reach(machine)
    kinds = [tuple([shown for shown, _ in moves]) for moves in reach.moves]
    following = [[moves[at][1] for moves in reach.moves] for at in range(len(reach.rows))]
    # The states come by their first histories, and so do the numbers of their classes.
    classes = numbered(refined(kinds, following))
    table = []
    for number, moves in zip(classes, reach.moves):
        if number == len(table):
            table.append(tuple([(shown, classes[after]) for shown, after in moves]))
    return tuple(table)
