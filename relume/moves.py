"""Switching and faults: sound states, steps, faults, and what may come of a step."""

from relume.board import FAULTS, Board
from relume.errors import BadNet, BadState, NotAllowed

MOST_FAULTS = 8
MOST_STRIKES = 5


def is_sound(net, state):
    """Tell whether each fed load is in a lit island, and each lit island is feasible."""
    return Board(net, []).is_sound(state)


def settled(net, state):
    """Return the settled state."""
    return Board(net, []).settled(state)


def after_step(net, state, step):
    """Return the state after a step from a sound state."""
    after = Board(net, []).after_step(state, step)
    if after is None:
        raise NotAllowed("the step is not allowed")
    return after


def steps_of(net, state):
    """Return the steps of a sound state, in their order."""
    return [step for step, _ in Board(net, []).steps(state)]


def after_fault(net, state, fault):
    """Return the settled state after a fault."""
    after = Board(net, []).after_fault(state, fault)
    if after is None:
        raise NotAllowed("the fault cannot strike")
    return after


def check_task(task):
    """Raise BadNet unless the net and the faults are a task."""
    net, faults = task
    if len(faults) > MOST_FAULTS:
        raise BadNet(f"more than {MOST_FAULTS} faults are told")
    if len(set(faults)) < len(faults):
        raise BadNet("a fault is told twice")
    for word, k in faults:
        if word not in FAULTS or not 0 <= k < len(net[1 + FAULTS[word]]):
            raise BadNet("a fault is not one of a line or a station of the net")


def check_place(task, place):
    """Raise BadState unless the state and the number are a place of the task."""
    state, strikes = place
    if not 0 <= strikes <= MOST_STRIKES:
        raise BadState(f"the number of strikes is not from 0 to {MOST_STRIKES}")
    if not is_sound(task[0], state):
        raise BadState("the state is not sound")


def answers(task, place, step):
    """Return the answers to a step from a place that is not full."""
    net, faults = task
    state, strikes = place
    board = Board(net, faults)
    if board.is_full(place):
        raise NotAllowed("the place is full")
    after = board.after_step(state, step)
    if after is None:
        raise NotAllowed("the step is not allowed")
    return board.answers_after(after, strikes)
