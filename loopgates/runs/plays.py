"""Plays: runs that go on step by step."""

from heapq import heapify, heappop, heappush

from loopgates.base.counts import require_many, require_undoable
from loopgates.base.masks import count_in, numbers_in
from loopgates.circuits.circuits import require_circuit
from loopgates.circuits.settings import require_setting
from loopgates.errors import InvalidStep
from loopgates.runs.motion import Motion, Wiring, node_number
from loopgates.runs.states import even_state, require_state

MOST_STEPS = 10000
EMPTY = ((), ())


class Play:
    """A run that goes on step by step."""

    def __init__(self, circuit, setting, *, state=None):
        require_circuit(circuit)
        require_setting(circuit, setting)
        if state is not None:
            require_state(circuit, state)
        self._circuit = circuit
        self._setting = {name: setting[name] for name in circuit[0]}
        self._wiring = Wiring(circuit)
        self._motion = Motion(self._wiring, circuit, setting, even_state(circuit, 0) if state is None else state)
        self._steps = []
        # For each step and change what brings back what was before it.
        self._deeds = []
        # The nodes that were excited all the time since the round began, and have not moved.
        self._pending = self._motion.uneasy
        self._rounds = 0
        # For each excited node the moment at which it was served last, -1 for never.
        self._served = [-1] * len(self._wiring.nodes)
        # The excited nodes as pairs of this moment and their number, beside older pairs; or None.
        self._queue = None

    @property
    def circuit(self):
        """The circuit."""
        return self._circuit

    @property
    def setting(self):
        """The present setting."""
        return {**self._setting}

    @setting.setter
    def setting(self, value):
        """Change the setting."""
        self.change(value)

    @property
    def state(self):
        """The present state."""
        return (tuple(self._motion.own), tuple(self._motion.taken))

    @property
    def steps(self):
        """The tuple of all steps."""
        return tuple(self._steps)

    @property
    def rounds(self):
        """The number of rounds that have ended since the last change of the setting."""
        return self._rounds

    @property
    def excited(self):
        """The ascending tuple of the excited nodes."""
        return tuple([self._wiring.nodes[number] for number in numbers_in(self._motion.uneasy)])

    def change(self, setting):
        """Change the setting; the state stays."""
        require_setting(self._circuit, setting)
        names = [name for name in self._circuit[0] if setting[name] != self._setting[name]]
        if names:
            before = self._motion.uneasy
            self._motion.change(names)
            self._queue = None
            self._deeds.append((None, names, self._pending, self._rounds, self._serve(before, 0)))
            self._setting = {name: setting[name] for name in self._circuit[0]}
            self._pending = self._motion.uneasy
            self._rounds = 0

    def step(self, *movers):
        """Do a step of these movers and return the new state."""
        return self.step_by(movers)

    def step_by(self, movers):
        """Do a step of a tuple of movers and return the new state."""
        if type(movers) is not tuple or not movers:
            raise InvalidStep("not a tuple of one or more movers")
        numbers = []
        free = self._motion.uneasy
        for node in movers:
            number = node_number(self._wiring.numbers, node)
            if number is None or not free >> number & 1:
                raise InvalidStep("not different excited nodes")
            free = free ^ self._wiring.units[number]
            numbers.append(number)
        self._queue = None
        self._go(sorted(numbers))
        return self.state

    def rush(self, *, many=1):
        """Let all excited nodes move, so many times or until nothing is excited, and return the number of steps."""
        require_many(many, MOST_STEPS)
        self._queue = None
        done = 0
        while done < many and self._motion.uneasy:
            self._go(numbers_in(self._motion.uneasy))
            done += 1
        return done

    def turn(self, *, many=1):
        """Let one node move after the other, each time the one that waits longest, and return the number of steps."""
        require_many(many, MOST_STEPS)
        done = 0
        while done < many and self._motion.uneasy:
            self._go([self._next()])
            done += 1
        return done

    def undo(self, *, many=1):
        """Take back the last steps and changes of the setting, and return how many are left."""
        require_undoable(many, len(self._deeds))
        self._queue = None
        for _ in range(many):
            self._take_back()
        return len(self._deeds)

    def twin(self):
        """Return an independent equal play, with everything that can be undone."""
        other = Play(EMPTY, {})
        other._circuit = self._circuit
        other._setting = {**self._setting}
        other._wiring = self._wiring
        other._motion = self._motion.twin()
        other._steps = list(self._steps)
        other._deeds = list(self._deeds)
        other._pending = self._pending
        other._rounds = self._rounds
        other._served = list(self._served)
        return other

    def _go(self, numbers):
        """Do a step of the excited nodes with these ascending numbers."""
        before = self._motion.uneasy
        moved = sum([self._wiring.units[number] for number in numbers])
        self._motion.move(numbers)
        after = self._motion.uneasy
        self._deeds.append((numbers, None, self._pending, self._rounds, self._serve(before, moved)))
        self._steps.append(tuple([self._wiring.nodes[number] for number in numbers]))
        self._pending = self._pending & after & ~moved
        if not self._pending:
            self._rounds += 1
            self._pending = after

    def _serve(self, before, moved):
        """Note when the nodes were served that are excited and were not before, or have moved; return older notes."""
        after = self._motion.uneasy
        moment = len(self._deeds) + 1
        notes = [(number, moment - 1) for number in numbers_in(after & ~before)]
        notes.extend([(number, moment) for number in numbers_in(after & moved)])
        older = [(number, self._served[number]) for number, _ in notes]
        for number, time in notes:
            self._served[number] = time
            if self._queue is not None:
                heappush(self._queue, (time, number))
        return older

    def _next(self):
        """Return the number of the excited node that was served at the earliest moment, the first one of several."""
        if self._queue is None:
            self._queue = [(self._served[number], number) for number in numbers_in(self._motion.uneasy)]
            heapify(self._queue)
        time, number = self._queue[0]
        # A pair is past if its node was served later, or is not excited any more.
        while time != self._served[number] or not self._motion.uneasy >> number & 1:
            heappop(self._queue)
            time, number = self._queue[0]
        return number

    def _take_back(self):
        """Take back the last step or change of the setting."""
        numbers, names, self._pending, self._rounds, older = self._deeds.pop()
        if numbers is None:
            self._motion.change(names)
            for name in names:
                self._setting[name] = 1 - self._setting[name]
        else:
            self._motion.move(numbers)
            self._steps.pop()
        for number, time in older:
            self._served[number] = time

    def __len__(self):
        return len(self._steps)

    def __bool__(self):
        return bool(self._motion.uneasy)

    def __contains__(self, node):
        number = node_number(self._wiring.numbers, node)
        return number is not None and self._motion.uneasy >> number & 1 == 1

    def __eq__(self, other):
        if not isinstance(other, Play):
            return False
        if self._circuit != other._circuit or self._setting != other._setting:
            return False
        return self._motion.own == other._motion.own and self._motion.taken == other._motion.taken

    def __str__(self):
        return f"play after {len(self._steps)} steps, {count_in(self._motion.uneasy)} excited"
