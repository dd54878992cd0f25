"""Loops of steps, and whether they are fair."""

from loopgates.circuits.circuits import require_circuit
from loopgates.circuits.settings import require_setting
from loopgates.errors import InvalidStep
from loopgates.runs.motion import Motion, Wiring, node_number
from loopgates.runs.states import has_state_form


def step_numbers(wiring, value):
    """Return the list of the numbers of the movers of a step, or None if it is not an ascending tuple of nodes."""
    if type(value) is not tuple or not value:
        return None
    numbers = []
    for node in value:
        number = node_number(wiring.numbers, node)
        if number is None or numbers and number <= numbers[-1]:
            return None
        numbers.append(number)
    return numbers


def loop_masks(circuit, setting, wiring, value):
    """Return the masks of the nodes that move in a loop of steps, and of those that rest in one of its states.

    A node rests if it is not excited. The result is None if the value is
    not a loop of steps.
    """
    if type(value) is not tuple or len(value) != 2:
        return None
    state, steps = value
    if not has_state_form(circuit, state) or type(steps) is not tuple or not steps:
        return None
    motion = Motion(wiring, circuit, setting, state)
    moving = 0
    resting = 0
    for step in steps:
        numbers = step_numbers(wiring, step)
        if numbers is None:
            return None
        movers = sum([wiring.units[number] for number in numbers])
        if movers & ~motion.uneasy:
            return None
        moving = moving | movers
        resting = resting | ~motion.uneasy
        motion.move(numbers)
    return (moving, resting) if (tuple(motion.own), tuple(motion.taken)) == state else None


def moving_gates(circuit, wiring, moving):
    """Return the ascending tuple of the gates whose own nodes are in a mask."""
    return tuple([gate[0] for gate, start in zip(circuit[1], wiring.starts) if moving >> start & 1])


def fair_movers(circuit, setting, value):
    """Return the tuple of the flipping gates of a fair loop of steps, or None if the value is none."""
    wiring = Wiring(circuit)
    masks = loop_masks(circuit, setting, wiring, value)
    if masks is None or wiring.whole & ~(masks[0] | masks[1]):
        return None
    return moving_gates(circuit, wiring, masks[0])


def is_step_loop(circuit, setting, value):
    """Return whether the value is a loop of steps."""
    require_circuit(circuit)
    require_setting(circuit, setting)
    return loop_masks(circuit, setting, Wiring(circuit), value) is not None


def is_fair_loop(circuit, setting, value):
    """Return whether the value is a fair loop of steps."""
    require_circuit(circuit)
    require_setting(circuit, setting)
    return fair_movers(circuit, setting, value) is not None


def flipping_gates(circuit, setting, loop):
    """Return the ascending tuple of the gates that move in a loop of steps."""
    require_circuit(circuit)
    require_setting(circuit, setting)
    wiring = Wiring(circuit)
    masks = loop_masks(circuit, setting, wiring, loop)
    if masks is None:
        raise InvalidStep("not a loop of steps")
    return moving_gates(circuit, wiring, masks[0])
