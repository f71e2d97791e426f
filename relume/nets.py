"""Nets and their states: which are valid, and which states are full."""

from relume.errors import BadNet, BadState

MOST_NODES = 8
MOST_LINES = 8
MOST_STATIONS = 4
MOST_LOADS = 4
MOST_STRENGTH = 1000
MOST_LIMIT = 1000
MOST_OUTPUT = 1000
MOST_AMOUNT = 1000


def check_net(net):
    """Raise BadNet unless the net is valid."""
    nodes, lines, stations, loads = net
    need_within(nodes, 1, MOST_NODES, "the number of nodes")
    need_within(len(lines), 0, MOST_LINES, "the number of lines")
    need_within(len(stations), 0, MOST_STATIONS, "the number of stations")
    need_within(len(loads), 0, MOST_LOADS, "the number of loads")
    for line in lines:
        check_line(nodes, line)
    for station in stations:
        check_station(nodes, station)
    for load in loads:
        check_load(nodes, load)


def check_line(nodes, line):
    """Raise BadNet unless the line may be one of a net of so many nodes."""
    a, b, strength, limit = line
    need_within(b, 0, nodes - 1, "the second node of a line")
    need_within(a, 0, b - 1, "the first node of a line")
    need_within(strength, 1, MOST_STRENGTH, "the strength of a line")
    need_within(limit, 0, MOST_LIMIT, "the limit of a line")


def check_station(nodes, station):
    """Raise BadNet unless the station may be one of a net of so many nodes."""
    node, least, greatest, _ = station
    need_within(node, 0, nodes - 1, "the node of a station")
    need_within(greatest, 0, MOST_OUTPUT, "the greatest output of a station")
    need_within(least, 0, greatest, "the least output of a station")


def check_load(nodes, load):
    """Raise BadNet unless the load may be one of a net of so many nodes."""
    node, amount = load
    need_within(node, 0, nodes - 1, "the node of a load")
    need_within(amount, 1, MOST_AMOUNT, "the amount of a load")


def need_within(number, least, greatest, what):
    """Raise BadNet unless the number is from the least to the greatest one."""
    if not least <= number <= greatest:
        raise BadNet(f"{what} is not from {least} to {greatest}")


def check_state(net, state):
    """Raise BadState unless the three tuples are a state of the net."""
    _, lines, stations, loads = net
    closed, running, fed = state
    check_indexes(closed, len(lines), "the closed lines")
    check_indexes(running, len(stations), "the running stations")
    check_indexes(fed, len(loads), "the fed loads")


def check_indexes(indexes, many, what):
    """Raise BadState unless the indexes ascend and are below so many."""
    last = -1
    for index in indexes:
        if not last < index < many:
            raise BadState(f"{what} are not ascending indexes below {many}")
        last = index


def is_full(net, state):
    """Tell whether all loads of the net are fed in the state."""
    # A valid state names no load twice, so counting is enough.
    return len(state[2]) == len(net[3])
