"""The islands into which the closed lines of a state join the nodes."""


def islands_of(net, state):
    """Return the islands of the state, listed by their least nodes."""
    marks = least_nodes(net, state)
    return [nodes_marked(marks, least) for least in sorted(set(marks))]


def least_nodes(net, state):
    """Return, for each node, the least node of its island."""
    lines = net[1]
    marks = list(range(net[0]))
    for k in state[0]:
        a, b = lines[k][:2]
        low = min(marks[a], marks[b])
        high = max(marks[a], marks[b])
        # The whole of both islands is marked anew, so the order of the lines does not matter.
        marks = [low if mark == high else mark for mark in marks]
    return marks


def nodes_marked(marks, least):
    """Return the nodes whose island has this least node, in ascending order."""
    return [node for node, mark in enumerate(marks) if mark == least]


def is_lit(net, state, island):
    """Tell whether a running station is at a node of the island."""
    stations = net[2]
    for k in state[1]:
        if stations[k][0] in island:
            return True
    return False


def lines_in(net, state, island):
    """Return the indexes of the closed lines between the nodes of the island."""
    lines = net[1]
    return [k for k in state[0] if lines[k][0] in island]


def stations_in(net, state, island):
    """Return the indexes of the running stations at the nodes of the island."""
    stations = net[2]
    return [k for k in state[1] if stations[k][0] in island]


def loads_in(net, state, island):
    """Return the indexes of the fed loads at the nodes of the island."""
    loads = net[3]
    return [k for k in state[2] if loads[k][0] in island]
