"""A net with told faults, and what is worked out about it while one question is answered."""

from relume.dispatch import is_feasible
from relume.islands import is_lit, islands_of, lines_in, loads_in, stations_in
from relume.nets import is_full

# For each word of a step: the part of the state that it changes, and whether it adds an index.
STEPS = {
    "close": (0, True),
    "open": (0, False),
    "begin": (1, True),
    "end": (1, False),
    "feed": (2, True),
    "drop": (2, False),
}

# For each word of a fault: the part of the state from which it takes an index.
FAULTS = {"line": 0, "station": 1}


class Board:
    """A net with told faults; what is asked for again is not worked out again."""

    def __init__(self, net, faults):
        self.net = net
        self.faults = faults
        self.known_islands = {}
        self.known_runs = {}
        self.known_steps = {}
        self.known_blows = {}

    def islands(self, state):
        """Return the islands of the state."""
        closed = state[0]
        if closed not in self.known_islands:
            self.known_islands[closed] = islands_of(self.net, state)
        return self.known_islands[closed]

    def runs(self, state, island):
        """Tell whether the island is lit and feasible."""
        if not is_lit(self.net, state, island):
            return False
        lines = tuple(lines_in(self.net, state, island))
        stations = tuple(stations_in(self.net, state, island))
        loads = tuple(loads_in(self.net, state, island))
        # Most states differ in one island only: the others are known by what stands in them.
        key = (island[0], lines, stations, loads)
        if key not in self.known_runs:
            self.known_runs[key] = is_feasible(self.net, state, island)
        return self.known_runs[key]

    def settled(self, state):
        """Return the settled state."""
        _, _, stations, loads = self.net
        closed, running, fed = state
        for island in self.islands(state):
            if not self.runs(state, island):
                running = tuple([k for k in running if stations[k][0] not in island])
                fed = tuple([k for k in fed if loads[k][0] not in island])
        return (closed, running, fed)

    def is_sound(self, state):
        """Tell whether the state is sound, which is whether it settles to itself."""
        return self.settled(state) == state

    def may_begin(self, state, k):
        """Tell whether the station begins by itself or is in a lit island."""
        node, _, _, own = self.net[2][k]
        homes = [island for island in self.islands(state) if node in island]
        return own or is_lit(self.net, state, homes[0])

    def after_step(self, state, step):
        """Return the state after the step, or None if it is not allowed."""
        word, k = step
        if word not in STEPS:
            return None
        part, adds = STEPS[word]
        if not 0 <= k < len(self.net[1 + part]) or (k in state[part]) == adds:
            return None
        if word == "begin" and not self.may_begin(state, k):
            return None
        after = with_index(state, part, k) if adds else without_index(state, part, k)
        return after if self.is_sound(after) else None

    def steps(self, state):
        """Return the steps of the state in their order, each with the state after it."""
        if state not in self.known_steps:
            found = []
            for word, (part, _) in STEPS.items():
                for k in range(len(self.net[1 + part])):
                    after = self.after_step(state, (word, k))
                    if after is not None:
                        found.append(((word, k), after))
            self.known_steps[state] = found
        return self.known_steps[state]

    def after_fault(self, state, fault):
        """Return the settled state after the fault, or None if it cannot strike."""
        word, k = fault
        if word not in FAULTS or k not in state[FAULTS[word]]:
            return None
        return self.settled(without_index(state, FAULTS[word], k))

    def blows(self, state):
        """Return the settled states after those told faults that can strike."""
        if state not in self.known_blows:
            found = [self.after_fault(state, fault) for fault in self.faults]
            self.known_blows[state] = [after for after in found if after is not None]
        return self.known_blows[state]

    def is_full(self, place):
        """Tell whether the place is full."""
        return is_full(self.net, place[0])

    def answers_after(self, after, strikes):
        """Return the answers to a step that leads to this state."""
        unstruck = (after, strikes)
        if strikes < 1 or self.is_full(unstruck):
            return [unstruck]
        return [unstruck] + [(blown, strikes - 1) for blown in self.blows(after)]

    def choices(self, place):
        """Return the steps of a place that is not full, each with its answers."""
        state, strikes = place
        return [(step, self.answers_after(after, strikes)) for step, after in self.steps(state)]


def with_index(state, part, k):
    """Return the state with one index more in one of its parts."""
    return replaced(state, part, tuple(sorted(list(state[part]) + [k])))


def without_index(state, part, k):
    """Return the state with one index less in one of its parts."""
    return replaced(state, part, tuple([index for index in state[part] if index != k]))


def replaced(state, part, indexes):
    """Return the state with other indexes in one of its parts."""
    new = list(state)
    new[part] = indexes
    return tuple(new)
