"""Loops of steps, and whether they are fair."""

from loopgates.base.masks import numbers_in
from loopgates.circuits.circuits import require_circuit
from loopgates.circuits.settings import require_setting
from loopgates.circuits.wires import is_node_pair
from loopgates.errors import InvalidStep
from loopgates.runs.states import GATE, has_state_form


# Loops are mostly repeated so often, or so often so often.
PRIMES = (2, 3, 5, 7)


class Course:
    """The nodes of a circuit by number, and a state of them.

    A state is a number: digit k is the bit of node number k, and behind the
    nodes stand the inputs. The wires of a gate stand backwards behind it, so
    that their digits are the position in its table. Sets of nodes are
    numbers likewise.
    """

    def __init__(self, circuit, setting, state):
        inputs, gates = circuit
        # The nodes in their order, with their numbers.
        self.numbers = {}
        self.starts = {}
        self.tables = {}
        begun = 0
        count = 0
        for (name, sources, table), own, taken in zip(gates, state[0], state[1]):
            self.numbers[(name, GATE)] = count
            self.starts[name] = count
            self.tables[count] = table
            number = count + len(sources)
            count = number + 1
            position = 0
            wire = 0
            for bit in taken:
                self.numbers[(name, wire)] = number
                position += position + bit
                number -= 1
                wire += 1
            begun = begun | position + position + own << number
        self.whole = (1 << count) - 1
        places = {**self.starts}
        for name in inputs:
            places[name] = count
            begun = begun | setting[name] << count
            count += 1
        self.begun = begun
        # For each wire the number of its source, for a gate None.
        self.sources = []
        for _, sources, _ in gates:
            self.sources.append(None)
            for source in sources[::-1]:
                self.sources.append(places[source])

    def is_calm(self, bits, number):
        """Return whether a node is not excited."""
        source = self.sources[number]
        if source is None:
            table = self.tables[number]
            return bits >> number & 1 == table[bits >> number + 1 & len(table) - 1]
        return bits >> number & 1 == bits >> source & 1

    def laps(self, movers, sets, times):
        """Return after how many rounds of these steps the state is there again, or None if so many are no loop."""
        sources = self.sources
        tables = self.tables
        bits = self.begun
        done = 0
        while done < times:
            for numbers, moved in zip(movers, sets):
                for number in numbers:
                    source = sources[number]
                    if source is None:
                        table = tables[number]
                        if table[bits >> number + 1 & len(table) - 1] == bits >> number & 1:
                            return None
                    elif not (bits >> source ^ bits >> number) & 1:
                        return None
                bits = bits ^ moved
            done += 1
            if bits == self.begun:
                return None if times % done else done
        return None


def movers_in(numbers, step):
    """Return the list of the numbers of several movers, or None if they are not ascending nodes."""
    if 4 * len(step) < len(numbers):
        before = ("", 0)
        for node in step:
            if not is_node_pair(node) or node not in numbers or node <= before:
                return None
            before = node
        return [numbers[node] for node in step]
    # Each one must come behind the one before it.
    nodes = iter(numbers)
    for node in step:
        if node not in nodes:
            return None
    # They are equal to nodes, but True and False are equal to 1 and 0.
    if [node for node in step if type(node[1]) is not int]:
        return None
    return [numbers[node] for node in step]


def read_steps(numbers, steps):
    """Return the lists of the numbers and of the sets of the movers, or None if one is no ascending tuple of nodes."""
    movers = []
    sets = []
    for step in steps:
        if type(step) is not tuple or not step:
            return None
        if len(step) == 1:
            # No calls here: loops of single movers are long.
            node = step[0]
            if type(node) is not tuple or len(node) != 2 or type(node[0]) is not str or type(node[1]) is not int:
                return None
            if node not in numbers:
                return None
            number = numbers[node]
            movers.append((number,))
            sets.append(1 << number)
        else:
            found = movers_in(numbers, step)
            if found is None:
                return None
            movers.append(found)
            sets.append(sum([1 << number for number in found]))
    return movers, sets


def period_of(steps):
    """Return how many of the steps come again and again, which may be all of them."""
    period = len(steps)
    for prime in PRIMES:
        while not period % prime:
            lesser = period // prime
            if steps[0] != steps[lesser] or steps[lesser:period] != steps[:period - lesser]:
                break
            period = lesser
    return period


def loop_course(circuit, setting, value):
    """Return the course of a loop of steps, the list of the sets of its movers, and the set of the nodes that move.

    The result is None if the value is not a loop of steps.
    """
    if type(value) is not tuple or len(value) != 2:
        return None
    state, steps = value
    if not has_state_form(circuit, state) or type(steps) is not tuple or not steps:
        return None
    course = Course(circuit, setting, state)
    period = period_of(steps)
    found = read_steps(course.numbers, steps[:period])
    if found is None or [node for step in steps[period:] for node in step if type(node[1]) is not int]:
        return None
    movers, sets = found
    laps = course.laps(movers, sets, len(steps) // period)
    if laps is None:
        return None
    moving = 0
    for moved in sets:
        moving = moving | moved
    return course, sets * laps, moving


def comes_to_rest(course, sets, moving, number):
    """Return whether a node that does not move in a loop is not excited in one of its states."""
    if course.is_calm(course.begun, number):
        return True
    source = course.sources[number]
    if source is not None:
        # A source that moves has both bits.
        return bool(moving >> source & 1)
    bits = course.begun
    for moved in sets:
        bits = bits ^ moved
        if course.is_calm(bits, number):
            return True
    return False


def moving_gates(course, moving):
    """Return the ascending tuple of the gates whose own nodes are in a set."""
    return tuple([name for name in course.starts if moving >> course.starts[name] & 1])


def fair_movers(circuit, setting, value):
    """Return the tuple of the flipping gates of a fair loop of steps, or None if the value is none."""
    found = loop_course(circuit, setting, value)
    if found is None:
        return None
    course, sets, moving = found
    still = course.whole & ~moving
    for number in numbers_in(still) if still else ():
        if not comes_to_rest(course, sets, moving, number):
            return None
    return moving_gates(course, moving)


def is_step_loop(circuit, setting, value):
    """Return whether the value is a loop of steps."""
    require_circuit(circuit)
    require_setting(circuit, setting)
    return loop_course(circuit, setting, value) is not None


def is_fair_loop(circuit, setting, value):
    """Return whether the value is a fair loop of steps."""
    require_circuit(circuit)
    require_setting(circuit, setting)
    return fair_movers(circuit, setting, value) is not None


def flipping_gates(circuit, setting, loop):
    """Return the ascending tuple of the gates that move in a loop of steps."""
    require_circuit(circuit)
    require_setting(circuit, setting)
    found = loop_course(circuit, setting, loop)
    if found is None:
        raise InvalidStep("not a loop of steps")
    return moving_gates(found[0], found[2])
