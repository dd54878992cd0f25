"""A bench: a circuit with its known values, which are kept right while it is edited."""

from loopgates.base.counts import require_undoable
from loopgates.base.names import UNKNOWN, is_value
from loopgates.bench.edits import edited, require_edits
from loopgates.circuits.circuits import require_circuit
from loopgates.errors import Conflict, InvalidSetting, UnknownName
from loopgates.runs.flips import settling_paper
from loopgates.settling.causes import value_paper
from loopgates.settling.known import gate_values

EMPTY = ((), ())


def require_values(inputs, values):
    """Raise InvalidSetting if it is not a dict from some of the inputs to values."""
    if type(values) is not dict:
        raise InvalidSetting("not a dict")
    for name in values:
        if type(name) is not str or name not in inputs or not is_value(values[name]):
            raise InvalidSetting("not a dict from inputs to values")


def require_once(taken, names):
    """Raise Conflict with the first name that is in a dict already, or repeats one before it."""
    seen = {**taken}
    for name in names:
        if name in seen:
            raise Conflict(name)
        seen[name] = True


class Bench:
    """A circuit and a partial setting under edits, which can be taken back."""

    def __init__(self, circuit, **setting):
        require_circuit(circuit)
        self._start(circuit, setting)

    @classmethod
    def of(cls, circuit, setting):
        """Return the bench with a dict of a partial setting."""
        require_circuit(circuit)
        bench = cls(EMPTY)
        bench._start(circuit, setting)
        return bench

    @property
    def circuit(self):
        """The circuit."""
        return self._moments[self._at][0]

    @property
    def setting(self):
        """The partial setting, with all inputs."""
        return {**self._moments[self._at][1]}

    @setting.setter
    def setting(self, value):
        """Change the values of the inputs of a dict."""
        self.change_by(value)

    @property
    def known(self):
        """The dict from the gates to their known values."""
        return {**self._moments[self._at][2]}

    @property
    def watched(self):
        """The ascending tuple of the watched gates."""
        return tuple(sorted(self._watched))

    @property
    def groups(self):
        """The tuple of the groups in effect."""
        return tuple(self._groups[:self._at])

    def apply(self, *edits):
        """Do a group of edits and return the news."""
        return self.apply_all(edits)

    def apply_all(self, edits):
        """Do a tuple of edits and return the news."""
        require_edits(edits)
        if not edits:
            return ()
        circuit, setting, known = self._moments[self._at]
        after, values = edited(circuit, setting, edits)
        found = gate_values(after, values)
        if found == known:
            # Many moments with the same values keep one dict.
            found = known
        # What had been undone is forgotten.
        del self._groups[self._at:]
        del self._moments[self._at + 1:]
        self._groups.append(edits)
        self._moments.append((after, values, found))
        return self._go(1)

    def change(self, **values):
        """Give new values to these inputs and return the news."""
        return self.change_by(values)

    def change_by(self, values):
        """Give the values of a dict to its inputs and return the news."""
        require_values(self._moments[self._at][1], values)
        return self.apply_all(tuple([("set", name, values[name]) for name in sorted(values)]))

    def undo(self, *, many=1):
        """Take back the last groups and return the news."""
        require_undoable(many, self._at)
        return self._go(-many)

    def redo(self, *, many=1):
        """Do the groups again that were undone last and return the news."""
        require_undoable(many, len(self._groups) - self._at)
        return self._go(many)

    def watch(self, *names):
        """Watch these gates."""
        known = self._moments[self._at][2]
        for name in names:
            if type(name) is not str or name not in known:
                raise UnknownName(name)
        require_once(self._watched, names)
        for name in names:
            self._watched[name] = True

    def unwatch(self, *names):
        """Do not watch these gates any more."""
        for name in names:
            if type(name) is not str or name not in self._watched:
                raise UnknownName(name)
        require_once({}, names)
        for name in names:
            del self._watched[name]

    def why(self, name):
        """Return a settling paper of a gate at a setting, a value paper at another partial setting."""
        circuit, setting, _ = self._moments[self._at]
        if UNKNOWN in list(setting.values()):
            return value_paper(circuit, setting, name)
        return settling_paper(circuit, setting, name)

    def unknown(self):
        """Return the ascending tuple of the gates that are not derived."""
        known = self._moments[self._at][2]
        return tuple([name for name in known if known[name] == UNKNOWN])

    def during(self, edits, call):
        """Do a group of edits, call `call(bench)`, and return its result; then everything is as before."""
        groups = list(self._groups)
        moments = list(self._moments)
        at = self._at
        watched = {**self._watched}
        self.apply_all(edits)
        try:
            return call(self)
        finally:
            self._groups = groups
            self._moments = moments
            self._at = at
            self._watched = watched

    def twin(self):
        """Return an independent equal bench without watched gates and groups."""
        other = Bench(EMPTY)
        other._moments = [self._moments[self._at]]
        return other

    def watching_twin(self):
        """Return an independent equal bench with the same watched gates, without groups."""
        other = self.twin()
        other._watched = {**self._watched}
        return other

    def _start(self, circuit, setting):
        """Begin with a circuit and some values of its inputs."""
        require_values(circuit[0], setting)
        values = {name: setting.get(name, UNKNOWN) for name in circuit[0]}
        # Behind each group its circuit, its setting and its known values, none of which changes any more.
        self._moments = [(circuit, values, gate_values(circuit, values))]
        self._groups = []
        self._at = 0
        self._watched = {}

    def _go(self, many):
        """Go on by so many groups, or back, and return the news."""
        before = self._moments[self._at][2]
        self._at += many
        after = self._moments[self._at][2]
        names = [name for name in sorted(self._watched) if before.get(name) != after.get(name)]
        return tuple([(name, before.get(name), after.get(name)) for name in names])

    def __contains__(self, value):
        return type(value) is str and value in self._moments[self._at][2]

    def __len__(self):
        return len(self._moments[self._at][2])

    def __iter__(self):
        raise TypeError("a bench cannot be iterated")

    def __getitem__(self, at):
        _, setting, known = self._moments[self._at]
        if type(at) is str and at in known:
            return known[at]
        if type(at) is str and at in setting:
            return setting[at]
        raise UnknownName(at)

    def __eq__(self, other):
        if not isinstance(other, Bench):
            return False
        return self._moments[self._at][:2] == other._moments[other._at][:2]

    def __str__(self):
        return f"bench of {len(self.known)} gates, {len(self.unknown())} unknown"
