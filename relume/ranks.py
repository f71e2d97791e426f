"""The ranks of the places that are reached from a place."""

from relume.board import Board
from relume.errors import TooLong

MOST_PLACES = 1500


def ranked_choices(task, place):
    """Return, for each place that is reached from the place, its steps with their answers; and the ranks."""
    net, faults = task
    board = Board(net, faults)
    choices = choices_from(board, place)
    return choices, ranks_of(board, choices)


def choices_from(board, place):
    """Return, for each place that is reached from the place, its steps with their answers."""
    choices = {place: []}
    todo = [place]
    while todo:
        here = todo.pop()
        # A full place ends the lighting, so nothing is reached by its steps.
        if not board.is_full(here):
            choices[here] = board.choices(here)
            new = new_answers(choices, here)
            choices.update({answer: [] for answer in new})
            todo.extend(new)
        if len(choices) > MOST_PLACES:
            raise TooLong(f"more than {MOST_PLACES} places are reached")
    return choices


def new_answers(choices, place):
    """Return the answers to steps of the place that are not among the reached places, once each."""
    found = {}
    for _, answers in choices[place]:
        for answer in answers:
            if answer not in choices:
                found[answer] = True
    return list(found)


def ranks_of(board, choices):
    """Return the ranks of those reached places that have one."""
    waiting, missing = waiting_steps(choices)
    ranks = {}
    rank = 0
    now = [place for place in choices if board.is_full(place)]
    while now:
        for place in now:
            ranks[place] = rank
        rank += 1
        now = ranked_next(now, ranks, waiting, missing)
    return ranks


def waiting_steps(choices):
    """Return which steps wait for the rank of each place, and how many ranks each step misses."""
    waiting = {place: [] for place in choices}
    missing = {}
    for place, steps in choices.items():
        for at, (_, answers) in enumerate(steps):
            missing[(place, at)] = len(answers)
            for answer in answers:
                waiting[answer].append((place, at))
    return waiting, missing


def ranked_next(now, ranks, waiting, missing):
    """Return the places without a rank that get one because those of now have got theirs."""
    found = {}
    for place in now:
        for step in waiting[place]:
            missing[step] -= 1
            if missing[step] == 0 and step[0] not in ranks:
                found[step[0]] = True
    return list(found)


def decided_choice(choices, ranks, place):
    """Return the decided step of a place with a rank of at least 1, with its answers."""
    for step, answers in choices[place]:
        if all(answer in ranks for answer in answers):
            if max([ranks[answer] for answer in answers]) == ranks[place] - 1:
                return (step, answers)
    return None
