"""The desk: answers to commands about a task, and a place of it."""

from relume.commands import read_command
from relume.costs import total_cost
from relume.errors import NotAllowed, OutOfRange
from relume.game import decide
from relume.islands import is_lit, islands_of
from relume.losses import loss_of, worst_losses
from relume.moves import MOST_STRIKES, after_fault, after_step, check_task, steps_of
from relume.nets import check_net, is_full
from relume.plays import decided_step, play


def state_answer(desk, _):
    """Tell the state and the strikes that are left."""
    words = [joined(indexes) for indexes in desk.state]
    return " ".join(words + [str(desk.strikes)])


def islands_answer(desk, _):
    """Tell the islands of the state."""
    words = []
    for island in islands_of(desk.net, desk.state):
        mark = "*" if is_lit(desk.net, desk.state, island) else ""
        words.append(joined(island) + mark)
    return " ".join(words)


def steps_answer(desk, _):
    """Tell the steps of the state."""
    words = [step_text(step) for step in steps_of(desk.net, desk.state)]
    return " ".join(words) if words else "none"


def do_answer(desk, rest):
    """Make a step, and tell the state."""
    desk.state = after_step(desk.net, desk.state, rest[0])
    return state_answer(desk, [])


def strike_answer(desk, rest):
    """Let a told fault strike, and tell the state."""
    fault = rest[0]
    if desk.strikes < 1:
        raise NotAllowed("there is no strike left")
    if fault not in desk.faults:
        raise NotAllowed("the fault is not told")
    desk.state = after_fault(desk.net, desk.state, fault)
    desk.strikes -= 1
    return state_answer(desk, [])


def loss_answer(desk, rest):
    """Tell what a fault takes with it."""
    stations, loads = loss_of(desk.net, desk.state, rest[0])
    return f"{joined(stations)} {joined(loads)}"


def worst_answer(desk, _):
    """Tell the worst loss for the strikes that are left."""
    return str(worst_losses(desk.task(), desk.state, desk.strikes))


def cost_answer(desk, rest):
    """Tell the total cost by these costs."""
    top, low = total_cost(desk.net, desk.state, rest)
    return str(top) if low == 1 else f"{top}/{low}"


def decide_answer(desk, _):
    """Tell the rank of the place, or how many places the trap has."""
    decision = decide(desk.task(), desk.place())
    if decision[0] == "lit":
        return f"lit {decision[1]}"
    return f"dark {len(decision[1])}"


def next_answer(desk, _):
    """Tell the decided step."""
    if is_full(desk.net, desk.state):
        return "full"
    step = decided_step(desk.task(), desk.place())
    return "none" if step is None else step_text(step)


def play_answer(desk, rest):
    """Tell the number of steps of the play by these integers."""
    places = play(desk.task(), desk.place(), rest)
    return "none" if places is None else str(len(places) - 1)


def joined(indexes):
    """Return the text of indexes or nodes."""
    return ",".join([str(index) for index in indexes]) if indexes else "-"


def step_text(step):
    """Return the text of a step."""
    word, index = step
    return f"{word}-{index}"


ANSWERS = {
    "state": state_answer,
    "islands": islands_answer,
    "steps": steps_answer,
    "do": do_answer,
    "strike": strike_answer,
    "loss": loss_answer,
    "worst": worst_answer,
    "cost": cost_answer,
    "decide": decide_answer,
    "next": next_answer,
    "play": play_answer,
}


class Desk:
    """A desk: a task, the state that its net is in, and the strikes that are left."""

    def __init__(self, task, strikes):
        net, faults = task
        check_net(net)
        check_task(task)
        if not 0 <= strikes <= MOST_STRIKES:
            raise OutOfRange(f"the number of strikes is not from 0 to {MOST_STRIKES}")
        nodes, lines, stations, loads = net
        # Copies, so that later changes to the lists that were passed have no effect.
        self.net = (nodes, list(lines), list(stations), list(loads))
        self.faults = list(faults)
        self.state = ((), (), ())
        self.strikes = strikes

    def task(self):
        """Return the task of the desk."""
        return (self.net, self.faults)

    def place(self):
        """Return the place of the desk."""
        return (self.state, self.strikes)

    def ask(self, command):
        """Return the answer to the command."""
        word, rest = read_command(command, len(self.net[2]))
        answer = ANSWERS[word]
        return answer(self, rest)
