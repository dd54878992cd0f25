"""What machines reach, and papers for machines."""

from loopgates.base.names import is_ascending, is_bit_row
from loopgates.machines.forms import (
    first_state, flip_paper, found_tick, input_names, is_history, read_names, tick_setting)
from loopgates.machines.machines import require_machine
from loopgates.machines.space import Reach, Space
from loopgates.runs.fair import fair_movers


def reached_states(machine):
    """Yield the pairs of a register state to which histories with results lead, and the first such history."""
    require_machine(machine)
    reach = Reach(machine)
    histories = []
    for state, way in zip(reach.reached, reach.ways):
        history = () if way is None else histories[way[0]] + (way[1],)
        histories.append(history)
        yield (state, history)


def paper_of_flip(machine, reach):
    """Return the machine paper of a machine that flips, with the first history of this kind."""
    return flip_paper(machine, input_names(machine), reach.reached[reach.flip[0]], reach.flip_history())


def machine_paper(machine):
    """Return a machine paper."""
    require_machine(machine)
    reach = Reach(machine)
    if reach.flip is not None:
        return paper_of_flip(machine, reach)
    return ("settles", tuple(sorted(reach.reached)))


def shortest_flip(machine):
    """Return the first history whose last tick, and no other one, has no result, or None."""
    require_machine(machine)
    reach = Reach(machine)
    return None if reach.flip is None else reach.flip_history()


def are_closed(machine, value):
    """Return whether the value is an ascending tuple of register states with the first one, which no tick leaves."""
    if type(value) is not tuple:
        return False
    for state in value:
        if not is_bit_row(state, len(machine[1])):
            return False
    own = {state: True for state in value}
    if not is_ascending(value) or first_state(machine) not in own:
        return False
    space = Space(machine)
    for state in value:
        for pair in space.results(state):
            if pair is None or pair[1] not in own:
                return False
    return True


def are_flipping(machine, history, loop):
    """Return whether the loop is a fair one, at the last tick of a history, that moves what the machine reads."""
    inputs = input_names(machine)
    if not is_history(history, len(inputs)) or not history:
        return False
    state = first_state(machine)
    for row in history[:-1]:
        found = found_tick(machine, inputs, state, row)
        if found is None:
            return False
        state = found[1]
    moved = fair_movers(machine[0], tick_setting(machine, inputs, state, history[-1]), loop) or ()
    return bool([name for name in read_names(machine) if name in moved])


def is_machine_paper(machine, value):
    """Return whether the value is a machine paper."""
    require_machine(machine)
    if type(value) is not tuple or len(value) not in (2, 3):
        return False
    if len(value) == 2:
        return value[0] == "settles" and are_closed(machine, value[1])
    return value[0] == "flips" and are_flipping(machine, value[1], value[2])
