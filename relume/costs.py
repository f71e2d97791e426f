"""Costs: what a dispatch costs, and which dispatches cost least."""

from relume.dispatch import Island, conditions_of, is_dispatch
from relume.errors import OutOfRange
from relume.islands import is_lit, islands_of, stations_in
from relume.ratios import on_one_low, ratio
from relume.simplex import are_weights, solve_least

MOST_COST = 1000


def cost_of(net, state, island, costs, outputs):
    """Return the cost of the outputs of the stations of the island."""
    check_costs(net, costs)
    units = unit_costs(net, state, island, costs)
    if len(outputs) != len(units):
        raise OutOfRange("there is not one output for each station of the island")
    tops, low = on_one_low(outputs)
    return ratio(sum([unit * top for unit, top in zip(units, tops)]), low)


def check_costs(net, costs):
    """Raise OutOfRange unless there is a cost for each station, and each is within its limits."""
    if len(costs) != len(net[2]):
        raise OutOfRange("there is not one cost for each station")
    for cost in costs:
        if not 0 <= cost <= MOST_COST:
            raise OutOfRange(f"a cost is not from 0 to {MOST_COST}")


def unit_costs(net, state, island, costs):
    """Return the costs of the stations of the island, in order."""
    return [costs[k] for k in stations_in(net, state, island)]


def goal_of(net, state, island, costs):
    """Return the cost of the island as a goal: what one more of each unknown costs."""
    # All unknowns behind the outputs are potentials: one for each node but the first one.
    return unit_costs(net, state, island, costs) + [0] * (len(island) - 1)


def least_run(net, state, island, costs):
    """Return the answer for the island: a dispatch that costs least, with weights, or a barrier."""
    check_costs(net, costs)
    within = Island(net, state, island)
    answer = solve_least(within.conditions(), goal_of(net, state, island, costs))
    if answer[0] == "no":
        return answer
    _, cost, unknowns, weights = answer
    many = len(within.stations)
    return ("least", cost, unknowns[:many], [(0, 1)] + unknowns[many:], weights)


def is_least(net, state, island, costs, answer):
    """Tell whether the answer has a dispatch of this cost, and weights which show that none costs less."""
    check_costs(net, costs)
    word, cost, outputs, potentials, weights = answer
    if word != "least" or not is_dispatch(net, state, island, outputs, potentials):
        return False
    # A cost that is not in lowest terms is another tuple.
    if cost_of(net, state, island, costs, outputs) != cost:
        return False
    goal = goal_of(net, state, island, costs)
    return are_weights(conditions_of(net, state, island), goal, cost, weights)


def total_cost(net, state, costs):
    """Return the sum of the least costs of the lit islands, or None if one of them is not feasible."""
    check_costs(net, costs)
    found = []
    for island in islands_of(net, state):
        if is_lit(net, state, island):
            answer = least_run(net, state, island, costs)
            if answer[0] == "no":
                return None
            found.append(answer[1])
    tops, low = on_one_low(found)
    return ratio(sum(tops), low)
