"""Lighting against faults: guides, traps, and the decision which of them a place has."""

from relume.board import Board
from relume.ranks import decided_choice, ranked_choices


def is_guide(task, place, guide):
    """Tell whether the list is a guide of the task for the place."""
    net, faults = task
    board = Board(net, faults)
    places = [row[0] for row in guide]
    ranks = {row[0]: row[1] for row in guide}
    if not are_ascending(places):
        return False
    if not board.is_full(place) and place not in ranks:
        return False
    for row in guide:
        if not leads_on(board, ranks, row):
            return False
    return True


def leads_on(board, ranks, row):
    """Tell whether the place is not full, and its step leads to smaller ranks or full places."""
    place, rank, step = row
    if rank < 1 or board.is_full(place):
        return False
    state, strikes = place
    after = board.after_step(state, step)
    if after is None:
        return False
    for answer in board.answers_after(after, strikes):
        if not board.is_full(answer) and (answer not in ranks or ranks[answer] >= rank):
            return False
    return True


def is_trap(task, place, trap):
    """Tell whether the list is a trap of the task for the place."""
    net, faults = task
    board = Board(net, faults)
    if place not in trap or not are_ascending(trap):
        return False
    listed = {here: True for here in trap}
    for here in trap:
        if board.is_full(here) or not keeps(board, listed, here):
            return False
    return True


def keeps(board, listed, place):
    """Tell whether each step of the place has an answer that is listed."""
    for _, answers in board.choices(place):
        if not any(answer in listed for answer in answers):
            return False
    return True


def are_ascending(places):
    """Tell whether the places ascend, so that no one stands there twice."""
    for place, following in zip(places, places[1:]):
        if not place < following:
            return False
    return True


def decide(task, place):
    """Return the decision on the place."""
    choices, ranks = ranked_choices(task, place)
    if place not in ranks:
        return ("dark", sorted([here for here in choices if here not in ranks]))
    return ("lit", ranks[place], guide_from(choices, ranks, place))


def guide_from(choices, ranks, place):
    """Return the least guide that has the ranks and the decided steps."""
    steps = {}
    todo = [place]
    while todo:
        here = todo.pop()
        if ranks[here] > 0 and here not in steps:
            step, answers = decided_choice(choices, ranks, here)
            steps[here] = step
            todo.extend(answers)
    return [(here, ranks[here], steps[here]) for here in sorted(steps)]
