"""Spots of plays: all that counts for what comes next, and where it leads."""

from loopgates.base.masks import FEW, numbers_in, numbers_of
from loopgates.runs.motion import state_with

# Plays of greater circuits seldom come back to a spot, and to note all their spots would take much room.
MOST_NODES = 64
MOST_SPOTS = 20000
TURN = 0
RUSH = 1


class Spot:
    """A state with its excited nodes, and how long they have waited; it only keeps what has been worked out."""

    def __init__(self, wiring, given, bits, uneasy):
        self.wiring = wiring
        # The wires that read an input with the bit 1.
        self.given = given
        self.bits = bits
        self.uneasy = uneasy
        # The nodes that were excited all the time since the round began, and have not moved.
        self.pending = uneasy
        # The excited nodes by the moment at which they were served last. So many at its end were served just now.
        self.line = ()
        self.late = 0
        self.number = 0
        # Where a turn and a rush lead: the next spot, the movers, and how many rounds end.
        self.leads = [None, None]
        self._picture = None

    @property
    def picture(self):
        """The state."""
        if self._picture is None:
            self._picture = state_with(self.wiring, self.bits)
        return self._picture


def staying(line, stay, left):
    """Return the list of the numbers of a line that stay in it: all but those that have left."""
    if len(left) > FEW:
        return [number for number in line if stay >> number & 1]
    found = list(line)
    for number in left:
        if number in found:
            found.remove(number)
    return found


def wait(spot, before, moved):
    """Put in how the nodes of a spot wait behind another one, from which these nodes have moved."""
    stay = before.uneasy & spot.uneasy & ~moved
    fresh = numbers_of(spot.uneasy & ~before.uneasy)
    early = []
    late = []
    if stay:
        left = numbers_of(before.uneasy ^ stay)
        cut = len(before.line) - before.late
        early = staying(before.line[:cut], stay, left)
        if before.late:
            late = staying(before.line[cut:], stay, left)
    # What was not excited before was served at the moment before, as the late ones were. What has moved is served now.
    still = numbers_of(spot.uneasy & moved)
    spot.line = tuple(early + (sorted(late + fresh) if late else fresh) + still)
    spot.late = len(still)


class Field:
    """The spots that plays of one circuit have met."""

    def __init__(self, wiring):
        self.wiring = wiring
        self.last_number = 0
        self.met = {}

    def first(self, given, bits):
        """Return the spot of a state with which a play begins."""
        spot = Spot(self.wiring, given, bits, self.wiring.restless(given, bits))
        spot.line = tuple(numbers_in(spot.uneasy))
        return self.counted(spot)

    def changed(self, spot, given):
        """Return the spot behind another one when the inputs have changed."""
        # Each wire that reads another bit now has become excited, or is no longer.
        after = Spot(self.wiring, given, spot.bits, spot.uneasy ^ spot.given ^ given)
        wait(after, spot, 0)
        return self.counted(after)

    def counted(self, spot):
        """Give a number of its own to a spot, and return it."""
        self.last_number += 1
        spot.number = self.last_number
        return spot

    def moved(self, spot, numbers):
        """Return the pair of the spot behind a step of these ascending movers, and of how many rounds end with it."""
        wiring = self.wiring
        bits = spot.bits
        uneasy = spot.uneasy
        moved = 0
        for number in numbers:
            moved = moved | wiring.units[number]
        if 4 * len(numbers) < len(wiring.gates):
            for number in numbers:
                bits, uneasy = wiring.flipped(bits, uneasy, number)
        else:
            bits = bits ^ moved
            uneasy = wiring.restless(spot.given, bits)
        after = Spot(wiring, spot.given, bits, uneasy)
        wait(after, spot, moved)
        pending = spot.pending & uneasy & ~moved
        if pending:
            after.pending = pending
        return after, 0 if pending else 1

    def lead(self, spot, kind):
        """Return where a turn or a rush leads: the next spot, the movers, and how many rounds end."""
        numbers = [spot.line[0]] if kind == TURN else numbers_in(spot.uneasy)
        after, ended = self.moved(spot, numbers)
        if len(self.wiring.nodes) > MOST_NODES:
            self.counted(after)
        else:
            key = (after.given, after.bits, after.line, after.late, after.pending)
            if key not in self.met:
                if len(self.met) == MOST_SPOTS:
                    self.met = {}
                self.met[key] = self.counted(after)
            after = self.met[key]
        nodes = self.wiring.nodes
        found = (after, tuple([nodes[number] for number in numbers]), ended)
        spot.leads[kind] = found
        return found
