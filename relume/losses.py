"""Losses: what a fault takes with it, and what several faults can take."""

from relume.board import Board
from relume.moves import after_fault


def loss_of(net, state, fault):
    """Return the stations and the loads that the fault takes with it."""
    return lost(state, fault, after_fault(net, state, fault))


def lost(state, fault, after):
    """Return the stations, without the struck one, and the loads that are not in the state after the fault."""
    stations = [k for k in state[1] if k not in after[1] and fault != ("station", k)]
    loads = [k for k in state[2] if k not in after[2]]
    return (stations, loads)


def harmful_faults(task, state):
    """Return the told faults that can strike and take something with them, in their order."""
    net, faults = task
    board = Board(net, faults)
    return [fault for fault in faults if is_harmful(board, state, fault)]


def is_harmful(board, state, fault):
    """Tell whether the fault can strike and takes something with it."""
    after = board.after_fault(state, fault)
    return after is not None and lost(state, fault, after) != ([], [])


def is_secure(task, state):
    """Tell whether no told fault is harmful in the state."""
    return not harmful_faults(task, state)


def worst_losses(task, state, strikes):
    """Return the greatest number of loads that so many told faults take, one after the other."""
    net, faults = task
    board = Board(net, faults)
    # No fault feeds a load, so the losses on a way add up to the loads that its last state has less.
    fewest = len(state[2])
    struck = [state]
    for _ in range(strikes):
        struck = struck_once_more(board, struck)
        fewest = min([fewest] + [len(after[2]) for after in struck])
    return len(state[2]) - fewest


def struck_once_more(board, states):
    """Return the states to which one more told fault leads, once each."""
    found = {}
    for state in states:
        for after in board.blows(state):
            found[after] = True
    return list(found)
