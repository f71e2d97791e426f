"""Running an island: its conditions, its dispatches and its barriers."""

from relume.islands import lines_in, loads_in, stations_in
from relume.ratios import is_ratio
from relume.simplex import are_refuted, are_satisfied, solve


class Island:
    """An island with what stands in it, told by forms.

    A form is a list of integers like a condition: the first one plus the sum of
    the others times the unknowns.
    """

    def __init__(self, net, state, island):
        self.nodes = island
        self.lines = [net[1][k] for k in lines_in(net, state, island)]
        self.stations = [net[2][k] for k in stations_in(net, state, island)]
        self.loads = [net[3][k] for k in loads_in(net, state, island)]
        # The number of the unknowns, of which the first node has none.
        self.count = len(self.stations) + len(island) - 1

    def number(self, amount):
        """Return the form of an integer."""
        return [amount] + [0] * self.count

    def output(self, at):
        """Return the form of the output of a station."""
        form = self.number(0)
        form[1 + at] = 1
        return form

    def potential(self, node):
        """Return the form of the potential of a node."""
        form = self.number(0)
        place = self.nodes.index(node)
        if place > 0:
            form[len(self.stations) + place] = 1
        return form

    def flow(self, line):
        """Return the form of the flow of a line."""
        a, b, strength, _ = line
        return plus(plus(self.number(0), strength, self.potential(a)), -strength, self.potential(b))

    def excess(self, node):
        """Return the form of the excess of a node."""
        form = self.number(0)
        for at, station in enumerate(self.stations):
            if station[0] == node:
                form = plus(form, 1, self.output(at))
        for place, amount in self.loads:
            if place == node:
                form = plus(form, -1, self.number(amount))
        for line in self.lines:
            if node in line[:2]:
                form = plus(form, -1 if line[0] == node else 1, self.flow(line))
        return form

    def may_balance(self):
        """Tell whether the stations can put out in sum what the loads take in sum."""
        taken = sum([amount for _, amount in self.loads])
        least = sum([station[1] for station in self.stations])
        greatest = sum([station[2] for station in self.stations])
        return least <= taken <= greatest

    def conditions(self):
        """Return the conditions of the stations, the lines and the nodes."""
        found = []
        for at, (_, least, greatest, _) in enumerate(self.stations):
            output = self.output(at)
            found.append(plus(self.number(-least), 1, output))
            found.append(plus(self.number(greatest), -1, output))
        for line in self.lines:
            limit = self.number(line[3])
            flow = self.flow(line)
            found.append(plus(limit, -1, flow))
            found.append(plus(limit, 1, flow))
        for node in self.nodes:
            excess = self.excess(node)
            found.append(excess)
            found.append(plus(self.number(0), -1, excess))
        return found


def plus(form, times, other):
    """Return the form plus another one times an integer."""
    return [mine + times * number for mine, number in zip(form, other)]


def conditions_of(net, state, island):
    """Return the conditions of the island."""
    return Island(net, state, island).conditions()


def is_dispatch(net, state, island, outputs, potentials):
    """Tell whether the outputs and potentials are a dispatch of the island."""
    within = Island(net, state, island)
    if len(outputs) != len(within.stations) or len(potentials) != len(island):
        return False
    for pair in outputs + potentials:
        if not is_ratio(pair):
            return False
    if potentials[0] != (0, 1):
        return False
    return are_satisfied(within.conditions(), outputs + potentials[1:])


def is_barrier(net, state, island, integers):
    """Tell whether the integers are a barrier of the island."""
    return are_refuted(conditions_of(net, state, island), integers)


def run_island(net, state, island):
    """Return the answer for the island: a dispatch, or a barrier."""
    within = Island(net, state, island)
    word, found = solve(within.conditions(), within.count)
    if word == "no":
        return ("no", found)
    many = len(within.stations)
    return ("yes", found[:many], [(0, 1)] + found[many:])


def is_feasible(net, state, island):
    """Tell whether the island has a dispatch."""
    within = Island(net, state, island)
    # The sums rule out most islands that cannot run, in much less time than the conditions.
    return within.may_balance() and solve(within.conditions(), within.count)[0] == "yes"
