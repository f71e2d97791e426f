"""Commands of the desk: which of them are well formed, and what they say."""

from relume.board import FAULTS, STEPS
from relume.errors import BadCommand

ALONE = ("state", "islands", "steps", "worst", "decide", "next")
WITH_FAULT = ("strike", "loss")
MOST_DIGITS = 3


def read_command(command, stations):
    """Return the first word of a command and the list of what follows it, for a net with so many stations."""
    words = command.split(" ")
    first = words[0]
    rest = words[1:]
    if first in ALONE:
        need_many(rest, 0)
        return first, []
    if first == "do":
        return first, [read_choice(rest, list(STEPS))]
    if first in WITH_FAULT:
        return first, [read_choice(rest, list(FAULTS))]
    if first == "cost":
        need_many(rest, stations)
    elif first != "play":
        raise BadCommand("the first word is not one of a command")
    return first, [read_number(word) for word in rest]


def need_many(words, many):
    """Raise BadCommand unless there are so many words."""
    if len(words) != many:
        raise BadCommand(f"not {many} words follow the first one")


def read_choice(words, allowed):
    """Return the step or the fault that the words name: an allowed word and an index."""
    need_many(words, 2)
    word, index = words
    if word not in allowed:
        raise BadCommand("the second word is not one that may follow the first one")
    return (word, read_number(index))


def read_number(word):
    """Return the number that the word is: digits without a leading zero."""
    # Other digits than those from 0 to 9 are digits too, so the word must be ASCII.
    if not (word.isascii() and word.isdigit()) or len(word) > MOST_DIGITS:
        raise BadCommand(f"a number has not 1 to {MOST_DIGITS} digits")
    if word[0] == "0" and word != "0":
        raise BadCommand("a number has a leading zero")
    return int(word)
