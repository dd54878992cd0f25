"""Plays: runs that go on step by step."""

from loopgates.base.counts import require_many, require_undoable
from loopgates.base.masks import count_in, numbers_in
from loopgates.circuits.circuits import require_circuit
from loopgates.circuits.settings import require_setting
from loopgates.errors import InvalidStep
from loopgates.runs.motion import Wiring, changed_state, node_number
from loopgates.runs.spots import MOST_NODES, RUSH, TURN, Field
from loopgates.runs.states import even_state, require_state

MOST_STEPS = 10000
EMPTY = ((), ())


class Play:
    """A run that goes on step by step."""

    def __init__(self, circuit, setting, *, state=None):
        require_circuit(circuit)
        require_setting(circuit, setting)
        if state is not None:
            require_state(circuit, state)
        self._circuit = circuit
        self._setting = {name: setting[name] for name in circuit[0]}
        self._field = Field(Wiring(circuit))
        wiring = self._field.wiring
        self._spot = self._field.first(wiring.reading(setting), 0 if state is None else wiring.bits_of(state))
        # The state, if the circuit is so great that it takes long to make it of the spot.
        self._shown = None
        if len(wiring.nodes) > MOST_NODES:
            self._shown = even_state(circuit, 0) if state is None else state
        self._rounds = 0
        self._steps = []
        # For each step and change of the setting the spot before it, and what brings back the rest: for a step how many
        # rounds ended with it, for a change the pair of the setting and the rounds before it.
        self._spots = []
        self._ended = []

    @property
    def circuit(self):
        """The circuit."""
        return self._circuit

    @property
    def setting(self):
        """The present setting."""
        return {**self._setting}

    @setting.setter
    def setting(self, value):
        """Change the setting."""
        self.change(value)

    @property
    def state(self):
        """The present state."""
        return self._spot.picture if self._shown is None else self._shown

    @property
    def steps(self):
        """The tuple of all steps."""
        return tuple(self._steps)

    @property
    def rounds(self):
        """The number of rounds that have ended since the last change of the setting."""
        return self._rounds

    @property
    def excited(self):
        """The ascending tuple of the excited nodes."""
        return tuple([self._field.wiring.nodes[number] for number in numbers_in(self._spot.uneasy)])

    def change(self, setting):
        """Change the setting; the state stays."""
        require_setting(self._circuit, setting)
        if setting != self._setting:
            self._spots.append(self._spot)
            self._ended.append((self._setting, self._rounds))
            self._setting = {name: setting[name] for name in self._circuit[0]}
            self._rounds = 0
            self._spot = self._field.changed(self._spot, self._field.wiring.reading(setting))

    def step(self, *movers):
        """Do a step of these movers and return the new state."""
        return self.step_by(movers)

    def step_by(self, movers):
        """Do a step of a tuple of movers and return the new state."""
        if type(movers) is not tuple or not movers:
            raise InvalidStep("not a tuple of one or more movers")
        wiring = self._field.wiring
        numbers = []
        free = self._spot.uneasy
        for node in movers:
            number = node_number(wiring.numbers, node)
            if number is None or not free >> number & 1:
                raise InvalidStep("not different excited nodes")
            free = free ^ wiring.units[number]
            numbers.append(number)
        numbers = sorted(numbers)
        after, ended = self._field.moved(self._spot, numbers)
        self._spots.append(self._spot)
        self._ended.append(ended)
        self._steps.append(tuple([wiring.nodes[number] for number in numbers]))
        self._rounds += ended
        self._reach(self._field.counted(after))
        return self.state

    def rush(self, *, many=1):
        """Let all excited nodes move, so many times or until nothing is excited, and return the number of steps."""
        require_many(many, MOST_STEPS)
        return self._go(RUSH, many)

    def turn(self, *, many=1):
        """Let one node move after the other, each time the one that waits longest, and return the number of steps."""
        require_many(many, MOST_STEPS)
        return self._go(TURN, many)

    def undo(self, *, many=1):
        """Take back the last steps and changes of the setting, and return how many are left."""
        require_undoable(many, len(self._spots))
        left = len(self._spots) - many
        if many:
            self._reach(self._spots[left])
        steps = 0
        for ended in self._ended[left:][::-1]:
            if type(ended) is tuple:
                self._setting, self._rounds = ended
            else:
                self._rounds -= ended
                steps += 1
        del self._spots[left:]
        del self._ended[left:]
        del self._steps[len(self._steps) - steps:]
        return left

    def twin(self):
        """Return an independent equal play, with everything that can be undone."""
        other = Play(EMPTY, {})
        other._circuit = self._circuit
        other._setting = self._setting
        other._field = self._field
        other._spot = self._spot
        other._shown = self._shown
        other._rounds = self._rounds
        other._steps = list(self._steps)
        other._spots = list(self._spots)
        other._ended = list(self._ended)
        return other

    def _go(self, kind, many):
        """Do turns or rushes, so many or until nothing is excited, and return how many were done."""
        spot = self._spot
        done = 0
        # A play that is at an earlier spot again goes on as it did from there. The spot with which each one is compared
        # is taken anew after 1, 2, 4, .. steps, so that it lies on the cycle at last.
        mark = spot.number
        length = 0
        span = 1
        while done < many and spot.uneasy:
            lead = spot.leads[kind]
            if lead is None:
                lead = self._field.lead(spot, kind)
            self._spots.append(spot)
            self._steps.append(lead[1])
            self._ended.append(lead[2])
            self._rounds += lead[2]
            spot = lead[0]
            done += 1
            length += 1
            if spot.number == mark:
                done += self._repeat(length, many - done)
                length = 0
            elif length == span:
                mark = spot.number
                length = 0
                span = span + span
        self._reach(spot)
        return done

    def _reach(self, spot):
        """Be at another spot."""
        if self._shown is not None:
            self._shown = changed_state(self._field.wiring, self._shown, self._spot.bits ^ spot.bits, spot.bits)
        self._spot = spot

    def _repeat(self, length, most):
        """Do the last steps again, so many of them, as often as it is possible with so many steps; return how many."""
        times = most // length
        if times:
            ended = self._ended[-length:]
            self._spots.extend(self._spots[-length:] * times)
            self._steps.extend(self._steps[-length:] * times)
            self._ended.extend(ended * times)
            self._rounds += sum(ended) * times
        return times * length

    def __len__(self):
        return len(self._steps)

    def __bool__(self):
        return bool(self._spot.uneasy)

    def __contains__(self, node):
        number = node_number(self._field.wiring.numbers, node)
        return number is not None and self._spot.uneasy >> number & 1 == 1

    def __eq__(self, other):
        if not isinstance(other, Play):
            return False
        if self._circuit != other._circuit or self._setting != other._setting:
            return False
        return self._spot.bits == other._spot.bits

    def __str__(self):
        return f"play after {len(self._steps)} steps, {count_in(self._spot.uneasy)} excited"
