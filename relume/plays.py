"""Plays: the decided steps, one after the other, with answers that are chosen."""

from relume.errors import OutOfRange
from relume.ranks import decided_choice, ranked_choices


def decided_step(task, place):
    """Return the decided step of the place, or None if it is full or has no rank."""
    choices, ranks = ranked_choices(task, place)
    if ranks.get(place, 0) == 0:
        return None
    return decided_choice(choices, ranks, place)[0]


def play(task, place, choices):
    """Return the places of the play by the choices, or None if the place has no rank."""
    for choice in choices:
        if choice < 0:
            raise OutOfRange("a choice is below 0")
    steps, ranks = ranked_choices(task, place)
    if place not in ranks:
        return None
    places = [place]
    while ranks[places[-1]] > 0:
        _, answers = decided_choice(steps, ranks, places[-1])
        made = len(places) - 1
        choice = choices[made] if made < len(choices) else 0
        places.append(answers[choice % len(answers)])
    return places
