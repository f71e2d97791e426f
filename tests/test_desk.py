"""Promises 1, 2, 23 and 24: the desk, its commands and its exceptions."""

import copy
import unittest
from random import Random

from relume.desk import Desk
from relume.errors import BadCommand, BadNet, LightError, NotAllowed, OutOfRange, TooLong
from tests.helper import (ALONE, BEHIND, DARK, DOUBLE, FIXED, REACHED, TASKS, TWIN, VAST, WORDS,
                          assert_unchanged, assert_unchanged_when_raised, full, inner_items,
                          wanted_decision, wanted_fault, wanted_islands, wanted_loss, wanted_play,
                          wanted_step, wanted_steps, wanted_total, wanted_worst)

# A chain of three nodes; the helper at its end does not begin by itself.
ROW = (4, [(0, 1, 1, 9), (1, 2, 2, 4)], [(0, 0, 9, True), (2, 1, 5, False)], [(1, 3), (2, 5), (0, 1)])
ROW_FAULTS = [("line", 0), ("station", 1), ("line", 1)]

# The commands that lead to the state FIXED_STATE.
FIXED_COMMANDS = ["do close 0", "do close 1", "do close 2", "do begin 0", "do begin 1", "do feed 0"]

VAST_FAULTS = [(word, k) for k in range(4) for word in ("line", "station")]

# No step is possible: the station has a least output, and there is nothing to close.
STILL = (1, [], [(0, 1, 1, True)], [(0, 1)])

# What a number is not, of the digits from 0 to 9 or of others, alone and with other signs.
NO_NUMBERS = ["", "x", "-1", "+1", "-0", "00", "01", "007", "1000", "0000", "9999", "1.0", "1,2", "1_0", "0x1", "1e1",
              "one", "1\t", "\t1", "1\n", "\n1", "1\u00a0", "\u00a01", "1\u2003", "\u0661", "\u0967", "\uff11",
              "\u00b2", "1\u00b2", "\u2460", "1\u0661", "1\r", "1\x0b", "1\x1c", "-", "--1", "10-", "*",
              "1*"]


def desk_at(task, strikes, commands):
    """Return a desk of the task that has been asked the commands."""
    desk = Desk(task, strikes)
    for command in commands:
        desk.ask(command)
    return desk


def random_command(random, task):
    """Return a well-formed command; the step or the fault of it may be not allowed."""
    net, faults = task
    word = random.choice(("state", "islands", "steps", "do", "strike", "strike", "loss", "worst", "cost", "decide",
                          "next", "play"))
    k = random.choice((0, 0, 1, 2, 3))
    if word == "do":
        return f"do {random.choice(WORDS)} {k}"
    if word in ("strike", "loss"):
        return joined([word, *random.choice(faults * 2 + [("line", k), ("station", k)])], " ")
    numbers = [random.choice((0, 1, 2, 7, 30, 999)) for _ in range(random.randrange(5))]
    if word == "cost":
        numbers = (numbers + [1, 2, 3, 4])[:len(net[2])]
    return joined([word] + (numbers if word in ("cost", "play") else []), " ")


def joined(items, sign=","):
    return sign.join(str(item) for item in items) or "-"


class PlainDesk:
    """What a desk answers to well-formed commands, by the words of the document."""

    def __init__(self, task, strikes):
        self.task, self.state, self.strikes = task, DARK, strikes

    def ask(self, command):
        """Return the answer, or None if NotAllowed must be raised."""
        word, *rest = command.split(" ")
        found = getattr(self, f"do_{word}")(*rest)
        return str(found) if found is not None else None

    def do_state(self):
        return " ".join([joined(part) for part in self.state] + [str(self.strikes)])

    def do_islands(self):
        net = self.task[0]
        return " ".join(joined(island) + ("*" if inner_items(net, self.state, island)[1] else "")
                        for island in wanted_islands(net, self.state[0]))

    def do_steps(self):
        return " ".join(joined(step, "-") for step in wanted_steps(self.task[0], self.state)) or "none"

    def do_do(self, word, k):
        after = wanted_step(self.task[0], self.state, (word, int(k)))
        if after is None:
            return None
        self.state = after
        return self.do_state()

    def do_strike(self, word, k):
        fault = (word, int(k))
        after = wanted_fault(self.task[0], self.state, fault)
        if self.strikes == 0 or fault not in self.task[1] or after is None:
            return None
        self.state = after
        self.strikes -= 1
        return self.do_state()

    def do_loss(self, word, k):
        if wanted_fault(self.task[0], self.state, (word, int(k))) is None:
            return None
        return " ".join(joined(part) for part in wanted_loss(self.task[0], self.state, (word, int(k))))

    def do_worst(self):
        return wanted_worst(self.task, self.state, self.strikes)

    def do_cost(self, *costs):
        top, low = wanted_total(self.task[0], self.state, [int(cost) for cost in costs])
        return f"{top}/{low}" if low > 1 else top

    def do_decide(self):
        decision = wanted_decision(self.task, (self.state, self.strikes))
        return f"lit {decision[1]}" if decision[0] == "lit" else f"dark {len(decision[1])}"

    def do_next(self):
        place = (self.state, self.strikes)
        if full(self.task[0], self.state):
            return "full"
        decision = wanted_decision(self.task, place)
        if decision[0] == "dark":
            return "none"
        return [joined(step, "-") for here, _, step in decision[2] if here == place][0]

    def do_play(self, *choices):
        found = wanted_play(self.task, (self.state, self.strikes), [int(choice) for choice in choices])
        return "none" if found is None else len(found) - 1


class DeskCase(unittest.TestCase):
    def asked(self, desk, *rows):
        """Check the answers to commands, one after the other."""
        for command, wanted in rows:
            with self.subTest(command=command):
                found = desk.ask(command)
                self.assertEqual(found, wanted)
                self.assertIs(type(found), str)

    def refused(self, desk, error, *commands):
        """Check that each command raises the error itself, and leaves the desk as it was."""
        for command in commands:
            with self.subTest(command=command):
                before = self.seen(desk)
                with self.assertRaises(error) as caught:
                    desk.ask(command)
                self.assertIs(type(caught.exception), error)
                self.assertEqual(self.seen(desk), before)

    def seen(self, desk):
        return [desk.ask(command) for command in ("state", "islands", "steps", "worst")]


class BeginTest(DeskCase):
    def test_first_place(self):
        for strikes in range(6):
            desk = assert_unchanged(self, Desk, (ROW, ROW_FAULTS), strikes)
            self.asked(desk, ("state", f"- - - {strikes}"), ("islands", "0 1 2 3"))

    def test_smallest_and_greatest_tasks(self):
        self.asked(Desk(((1, [], [], []), []), 0), ("state", "- - - 0"), ("islands", "0"), ("steps", "none"),
                   ("worst", "0"), ("cost", "0"), ("decide", "lit 0"), ("next", "full"), ("play", "0"))
        self.asked(Desk((VAST, VAST_FAULTS), 5), ("state", "- - - 5"), ("islands", "0 1 2 3 4 5 6 7"))

    def test_nets_that_are_not_valid(self):
        nodes, lines, stations, loads = ROW
        for net in ((0, [], [], []), (9, lines, stations, loads), (2, lines, stations, loads),
                    (nodes, lines + [(1, 0, 1, 1)], stations, loads), (nodes, lines + [(0, 4, 1, 1)], stations, loads),
                    (nodes, lines * 5, stations, loads), (nodes, lines, stations * 3, loads),
                    (nodes, lines, stations, loads * 2), (nodes, lines, stations, [(0, 0)]),
                    (nodes, lines, [(0, 2, 1, True)], loads), (nodes, [(0, 1, 0, 1)], stations, loads)):
            for strikes in (0, 5, 6, -1):
                for faults in ([], [("line", 0)], [("line", 9)]):
                    assert_unchanged_when_raised(self, BadNet, Desk, (net, faults), strikes)

    def test_tasks_that_are_not_valid(self):
        for faults in ([("line", 2)], [("line", -1)], [("station", 2)], [("load", 0)], [("", 0)],
                       [("line", 0), ("line", 0)], ROW_FAULTS + [("station", 1)], [("Line", 0)]):
            for strikes in (0, 5, 6, -1):
                assert_unchanged_when_raised(self, BadNet, Desk, (ROW, faults), strikes)
        assert_unchanged_when_raised(self, BadNet, Desk, (VAST, VAST_FAULTS + [("line", 4)]), 1)

    def test_strikes_out_of_range(self):
        for strikes in (-1, 6, 7, -6, 100, 10 ** 30, -10 ** 30):
            for faults in ([], ROW_FAULTS):
                assert_unchanged_when_raised(self, OutOfRange, Desk, (ROW, faults), strikes)


class AnswersTest(DeskCase):
    def test_state(self):
        desk = Desk((ROW, ROW_FAULTS), 3)
        self.asked(desk, ("state", "- - - 3"), ("do close 1", "1 - - 3"), ("do close 0", "0,1 - - 3"),
                   ("do begin 0", "0,1 0 - 3"), ("do feed 2", "0,1 0 2 3"), ("do feed 0", "0,1 0 0,2 3"),
                   ("do begin 1", "0,1 0,1 0,2 3"), ("do feed 1", "0,1 0,1 0,1,2 3"), ("state", "0,1 0,1 0,1,2 3"),
                   ("do drop 0", "0,1 0,1 1,2 3"), ("state", "0,1 0,1 1,2 3"))

    def test_islands(self):
        desk = Desk((ROW, ROW_FAULTS), 0)
        self.asked(desk, ("islands", "0 1 2 3"), ("do close 1", "1 - - 0"), ("islands", "0 1,2 3"),
                   ("do begin 0", "1 0 - 0"), ("islands", "0* 1,2 3"), ("do close 0", "0,1 0 - 0"),
                   ("islands", "0,1,2* 3"), ("do end 0", "0,1 - - 0"), ("islands", "0,1,2 3"))
        crossed = (5, [(0, 3, 1, 1), (1, 4, 1, 1)], [(4, 0, 1, True), (2, 0, 1, True)], [])
        desk = desk_at((crossed, []), 1, ["do close 0", "do close 1", "do begin 0", "do begin 1"])
        self.asked(desk, ("islands", "0,3 1,4* 2*"))

    def test_steps(self):
        desk = Desk((ROW, ROW_FAULTS), 1)
        self.asked(desk, ("steps", "close-0 close-1 begin-0"), ("do close 1", "1 - - 1"),
                   ("steps", "close-0 open-1 begin-0"), ("do begin 0", "1 0 - 1"),
                   ("steps", "close-0 open-1 end-0 feed-2"), ("do close 0", "0,1 0 - 1"), ("do feed 0", "0,1 0 0 1"),
                   ("steps", "open-1 begin-1 feed-2 drop-0"), ("do begin 1", "0,1 0,1 0 1"),
                   ("steps", "open-0 end-0 end-1 feed-1 feed-2"), ("do feed 1", "0,1 0,1 0,1 1"),
                   ("steps", "open-1 feed-2 drop-0 drop-1"))
        self.asked(Desk((STILL, []), 2), ("steps", "none"))

    def test_steps_of_full_states(self):
        desk = desk_at((ALONE, []), 0, ["do begin 0", "do feed 0"])
        self.asked(desk, ("next", "full"), ("steps", "drop-0"), ("do drop 0", "- 0 - 0"), ("next", "feed-0"))
        desk = desk_at((TWIN, []), 0, ["do close 0", "do begin 0", "do feed 0"])
        self.asked(desk, ("steps", "close-1 drop-0"), ("do close 1", "0,1 0 0 0"), ("do open 0", "1 0 0 0"))

    def test_steps_that_are_not_allowed(self):
        desk = Desk((ROW, ROW_FAULTS), 2)
        self.refused(desk, NotAllowed, "do open 0", "do begin 1", "do end 0", "do feed 0", "do drop 0", "do close 2",
                     "do close 999", "do open 999", "do begin 2", "do end 7", "do feed 3", "do drop 100")
        self.asked(desk, ("do begin 0", "- 0 - 2"), ("do feed 2", "- 0 2 2"))
        self.refused(desk, NotAllowed, "do begin 0", "do feed 2", "do end 0", "do feed 1")

    def test_strike(self):
        desk = desk_at((ROW, ROW_FAULTS), 3, ["do close 0", "do close 1", "do begin 0", "do feed 0"])
        self.asked(desk, ("strike line 1", "0 0 0 2"), ("strike line 0", "- 0 - 1"), ("do close 0", "0 0 - 1"),
                   ("strike line 0", "- 0 - 0"), ("state", "- 0 - 0"))

    def test_a_strike_takes_stations_and_loads_with_it(self):
        commands = ["do close 0", "do close 1", "do begin 0", "do feed 0", "do begin 1", "do feed 1", "do feed 2"]
        desk = desk_at((ROW, ROW_FAULTS), 5, commands)
        self.asked(desk, ("next", "full"), ("strike station 1", "0,1 - - 4"), ("next", "begin-0"))
        desk = desk_at((ROW, ROW_FAULTS), 5, commands)
        # several times without a step between, in a full state first
        self.asked(desk, ("strike line 1", "0 0,1 0,1,2 4"), ("strike line 0", "- 0,1 1,2 3"),
                   ("strike station 1", "- 0 2 2"))
        self.refused(desk, NotAllowed, "strike line 0", "strike line 1", "strike station 1", "strike station 0")

    def test_strikes_that_are_not_allowed(self):
        desk = desk_at((ROW, ROW_FAULTS), 2, ["do close 0", "do begin 0"])
        # not told, or not to be struck, or without existence
        self.refused(desk, NotAllowed, "strike station 0", "strike line 1", "strike station 1", "strike line 2",
                     "strike station 2", "strike line 999")
        self.asked(desk, ("strike line 0", "- 0 - 1"))
        self.refused(desk, NotAllowed, "strike line 0")
        self.asked(desk, ("do close 0", "0 0 - 1"), ("strike line 0", "- 0 - 0"), ("do close 0", "0 0 - 0"))
        # no strike is left
        self.refused(desk, NotAllowed, "strike line 0")
        desk = desk_at((ROW, []), 5, ["do close 0", "do begin 0"])
        self.refused(desk, NotAllowed, "strike line 0", "strike station 0")
        desk = desk_at((ROW, ROW_FAULTS), 0, ["do close 0"])
        self.refused(desk, NotAllowed, "strike line 0")

    def test_loss(self):
        desk = desk_at((ROW, ROW_FAULTS), 0, ["do close 0", "do close 1", "do begin 0", "do feed 0", "do begin 1",
                                              "do feed 1", "do feed 2"])
        # whether strikes are left or the fault is told does not matter
        self.asked(desk, ("loss line 0", "1 0,1"), ("loss line 1", "- -"), ("loss station 0", "1 0,1,2"),
                   ("loss station 1", "0 0,1,2"), ("state", "0,1 0,1 0,1,2 0"))
        self.asked(desk, ("do open 1", "0 0,1 0,1,2 0"), ("loss line 0", "- 0"), ("loss station 1", "- 1"),
                   ("loss station 0", "- 0,2"))
        needed = (2, [(0, 1, 1, 9)], [(0, 0, 9, True), (1, 2, 9, True)], [(0, 3)])
        desk = desk_at((needed, []), 0, ["do close 0", "do begin 0", "do feed 0", "do begin 1"])
        self.asked(desk, ("loss line 0", "1 -"), ("loss station 0", "- -"))
        self.refused(desk, NotAllowed, "loss line 1", "loss station 2", "loss line 999")
        desk.ask("do end 0")
        self.refused(desk, NotAllowed, "loss station 0")
        self.asked(desk, ("loss line 0", "1 0"))

    def test_worst(self):
        desk = desk_at((ROW, ROW_FAULTS), 3, ["do close 0", "do close 1", "do begin 0", "do feed 0", "do begin 1",
                                              "do feed 1", "do feed 2"])
        self.asked(desk, ("worst", "3"), ("strike line 1", "0 0,1 0,1,2 2"), ("worst", "2"),
                   ("strike line 0", "- 0,1 1,2 1"), ("worst", "1"), ("strike station 1", "- 0 2 0"), ("worst", "0"))
        self.asked(Desk((ROW, ROW_FAULTS), 5), ("worst", "0"))
        self.asked(desk_at((ALONE, []), 5, ["do begin 0", "do feed 0"]), ("worst", "0"))
        self.asked(desk_at((ALONE, [("station", 0)]), 0, ["do begin 0", "do feed 0"]), ("worst", "0"))
        self.asked(desk_at((ALONE, [("station", 0)]), 1, ["do begin 0", "do feed 0"]), ("worst", "1"))

    def test_cost(self):
        desk = Desk((ROW, []), 0)
        self.asked(desk, ("cost 5 7", "0"), ("cost 0 0", "0"), ("cost 999 999", "0"))
        for command in ("do close 0", "do close 1", "do begin 0", "do feed 0", "do begin 1", "do feed 1", "do feed 2"):
            desk.ask(command)
        self.asked(desk, ("cost 1 10", str(8 + 10)), ("cost 10 1", str(40 + 5)), ("cost 0 0", "0"),
                   ("cost 0 999", "999"), ("cost 999 0", "3996"), ("cost 1 1", "9"))
        self.refused(desk, BadCommand, "cost", "cost 1", "cost 1 2 3", "cost 1 1000", "cost 1 -1")

    def test_cost_as_a_fraction(self):
        desk = desk_at((FIXED, []), 0, FIXED_COMMANDS)
        self.asked(desk, ("cost 1 0", "19/15"), ("cost 0 1", "11/15"), ("cost 1 1", "2"), ("cost 15 0", "19"),
                   ("cost 5 5", "10"), ("cost 3 0", "19/5"), ("cost 5 0", "19/3"), ("cost 999 0", "6327/5"),
                   ("cost 0 0", "0"))

    def test_cost_has_one_number_for_each_station(self):
        for net, right in (((1, [], [], []), ["cost"]), (ALONE, ["cost 0", "cost 999"]), (ROW, ["cost 0 9"]),
                           (VAST, ["cost 0 0 0 0", "cost 1 2 3 4"])):
            desk = Desk((net, []), 1)
            for many in range(6):
                command = " ".join(["cost"] + ["7"] * many)
                if many == len(net[2]):
                    self.asked(desk, (command, "0"))
                else:
                    self.refused(desk, BadCommand, command)
            for command in right:
                self.asked(desk, (command, "0"))

    def test_decide_and_next(self):
        desk = Desk((ALONE, [("station", 0)]), 5)
        self.asked(desk, ("decide", "lit 7"), ("next", "begin-0"), ("do begin 0", "- 0 - 5"), ("decide", "lit 1"),
                   ("next", "feed-0"), ("strike station 0", "- - - 4"), ("decide", "lit 6"), ("next", "begin-0"),
                   ("do begin 0", "- 0 - 4"), ("do feed 0", "- 0 0 4"), ("decide", "lit 0"), ("next", "full"))
        self.asked(Desk((BEHIND, []), 0), ("decide", "dark 2"), ("next", "none"))
        self.asked(Desk((BEHIND, [("line", 0)]), 5), ("decide", "dark 12"), ("next", "none"))
        self.asked(Desk((STILL, []), 3), ("decide", "dark 1"), ("next", "none"), ("play", "none"))
        self.asked(Desk((TWIN, [("line", 0)]), 1), ("next", "close-1"), ("decide", "lit 3"))

    def test_every_word_of_a_step_may_be_next(self):
        net = (2, [(0, 1, 1, 5), (0, 1, 2, 0)], [(0, 1, 5, False), (0, 0, 5, True)], [(1, 4)])
        desk = desk_at((net, []), 1, ["do close 0", "do close 1", "do begin 1"])
        self.asked(desk, ("next", "open-1"), ("do open 1", "0 1 - 1"), ("next", "feed-0"))
        net = (1, [], [(0, 0, 4, True), (0, 3, 3, True)], [(0, 4), (0, 2)])
        desk = desk_at((net, [("station", 1)]), 1, ["do begin 0", "do feed 1"])
        self.asked(desk, ("next", "drop-1"))
        net = (1, [], [(0, 1, 3, True), (0, 0, 1, True), (0, 1, 2, True)], [(0, 1), (0, 3)])
        desk = desk_at((net, [("station", 0), ("station", 2)]), 1, ["do begin 1", "do feed 0", "do begin 2"])
        self.asked(desk, ("state", "- 1,2 0 1"), ("next", "end-2"))

    def test_play(self):
        desk = Desk((ALONE, [("station", 0)]), 2)
        self.asked(desk, ("play", "2"), ("play 0", "2"), ("play 1", "3"), ("play 1 1", "4"), ("play 1 1 1", "4"),
                   ("play 999", "3"), ("play 998", "2"), ("play 0 1", "2"), ("play 1 0 5 7 999 0 3 4 8", "3"),
                   ("state", "- - - 2"))
        self.asked(Desk((BEHIND, []), 1), ("play", "none"), ("play 1 2 3", "none"))
        desk = desk_at((ALONE, [("station", 0)]), 2, ["do begin 0", "do feed 0"])
        self.asked(desk, ("play", "0"), ("play 1", "0"))

    def test_just_as_many_places_as_are_allowed(self):
        for at, decided, step in ((0, "dark 1500", "none"), (1, "lit 3", None), (2, "lit 13", None)):
            _, net, faults, strikes = REACHED[at]
            desk = Desk((net, faults), strikes)
            decision = wanted_decision((net, faults), (DARK, strikes)) if at == 1 else None
            if decision:
                step = [joined(told, "-") for here, _, told in decision[2] if here == (DARK, strikes)][0]
            self.asked(desk, ("decide", decided))
            if step:
                self.asked(desk, ("next", step))
            self.assertEqual(desk.ask("play") == "none", at == 0)

    def test_too_many_places(self):
        for many, net, faults, strikes in REACHED:
            if many > 1500:
                self.refused(Desk((net, faults), strikes), TooLong, "decide", "next", "play", "play 0", "play 1 2 3")
        desk = desk_at((VAST, VAST_FAULTS), 5, ["do close 0", "do begin 0"])
        self.refused(desk, TooLong, "decide", "next", "play", "play 7")
        # the other commands answer all the same
        self.asked(desk, ("islands", "0,1* 2 3 4 5 6 7"), ("cost 1 2 3 4", "0"), ("loss line 0", "- -"),
                   ("state", "0 0 - 5"))

    def test_greatest_nets(self):
        commands = [f"do close {k}" for k in range(8)] + [f"do begin {k}" for k in range(4)]
        commands += [f"do feed {k}" for k in range(4)]
        desk = desk_at((VAST, VAST_FAULTS), 5, commands)
        self.asked(desk, ("state", "0,1,2,3,4,5,6,7 0,1,2,3 0,1,2,3 5"), ("islands", "0,1,2,3,4,5,6,7*"),
                   ("decide", "lit 0"), ("next", "full"), ("play 1", "0"), ("worst", "4"), ("cost 1 1 1 1", "800"),
                   ("cost 1 2 3 4", "800"), ("cost 999 998 997 996", str(800 * 996)), ("loss line 0", "- -"),
                   ("loss station 0", "- -"))
        self.refused(desk, NotAllowed, "strike line 4", "loss line 8", "do feed 0")
        # only the station 0 is left for the loads, and then nothing
        self.asked(desk, ("strike line 0", "1,2,3,4,5,6,7 0,1,2,3 0,1,2,3 4"), ("loss line 3", "- -"),
                   ("strike line 3", "1,2,4,5,6,7 0,1,2,3 0,1,2,3 3"), ("loss station 0", "- 0,1,2,3"),
                   ("strike station 0", "1,2,4,5,6,7 1,2,3 - 2"), ("islands", "0,4,5,6,7 1,2,3*"), ("worst", "0"))
        self.refused(desk, TooLong, "decide", "next", "play")
        desk = Desk((DOUBLE, [(word, k) for k in range(4) for word in ("station", "line")]), 1)
        self.asked(desk, ("decide", "lit 6"), ("next", "begin-1"), ("do begin 1", "- 1 - 1"), ("decide", "lit 5"))

    def test_many_commands(self):
        random = Random(71)
        told = {}
        tasks = [task for task, _ in TASKS[:8]] + [(TWIN, [("station", 0), ("line", 1)]), (ROW, ROW_FAULTS),
                                                   (ALONE, [("station", 0)])] * 7
        for task in tasks:
            net, strikes = task[0], random.choice((0, 2, 4, 5))
            desk, plain = Desk(task, strikes), PlainDesk(task, strikes)
            for _ in range(25):
                command = random_command(random, task)
                # Mostly steps towards light, so that faults have something to strike.
                steps = wanted_steps(net, plain.state)
                steps += [step for step in steps if step[0] in ("close", "begin", "feed")] * 4
                if random.random() < 0.5 and steps:
                    command = joined(["do", *random.choice(steps)], " ")
                with self.subTest(task=task, place=(plain.state, plain.strikes), command=command):
                    wanted = plain.ask(command)
                    if wanted is None:
                        self.refused(desk, NotAllowed, command)
                    else:
                        self.asked(desk, (command, wanted), ("state", plain.do_state()))
                plain_kinds = (None, "none", "full", "- -", "0")
                kind = (command.split(" ")[0], wanted if wanted in plain_kinds else "more")
                told[kind] = told.get(kind, 0) + 1
        words = ("state", "islands", "steps", "do", "strike", "loss", "worst", "cost", "decide", "next", "play")
        kinds = [(word, "more") for word in words]
        kinds += [("do", None), ("strike", None), ("loss", None), ("loss", "- -"), ("worst", "0"), ("cost", "0"),
                  ("steps", "none"), ("next", "none"), ("next", "full"), ("play", "none"), ("play", "0")]
        for kind in kinds:
            self.assertGreater(told[kind], 2, told)


class BadCommandTest(DeskCase):
    def desks(self):
        """Return desks in whose places much is possible, or nothing."""
        return [Desk((ROW, ROW_FAULTS), 2), desk_at((ROW, ROW_FAULTS), 2, ["do close 0", "do begin 0", "do feed 0"]),
                Desk((STILL, []), 0), desk_at((ALONE, [("station", 0)]), 1, ["do begin 0", "do feed 0"])]

    def bad(self, *commands):
        for desk in self.desks():
            self.refused(desk, BadCommand, *commands)

    def test_empty_commands_and_words(self):
        self.bad("", " ", "  ", "   ", " state", "state ", "state  ", "  state", "do  close 0", "do close  0",
                 "do close 0 ", " do close 0", "do close ", "do ", "do  0", "play ", "play  1", "play 1 ", " play",
                 "play 1  2", "cost ", "cost  1", "cost 1  2", "cost 1 2 ", "strike line ", "strike  0", "loss line ", " worst", "next ")

    def test_unknown_words(self):
        self.bad("x", "State", "STATE", "states", "stat", "close 0", "line 0", "none", "-", "0", "help",
                 "state,islands", "state\tislands", "\tstate", "state\n", "\nstate", "state\u00a0", "Do close 0", "full", "begin", "is",
                 "quit", "*", "__init__", "task", "ask state", "place", "plays", "costs", "deciden", "nex",
                 "do-close-0")

    def test_a_word_too_many(self):
        self.bad("state 0", "state state", "islands 0", "steps 0", "steps x", "worst 0", "worst 1 2", "decide 0",
                 "next 0", "next next", "do close 0 0", "do close 0 1 2", "strike line 0 0", "loss line 0 0", "do feed 0 feed",
                 "cost 1 2 3", "cost 1 2 3 4 5", "decide lit")

    def test_a_word_too_few(self):
        self.bad("do", "do close", "do 0", "do feed", "strike", "strike line", "strike 0", "loss", "loss station",
                 "loss 0")
        for desk in self.desks()[:2]:
            self.refused(desk, BadCommand, "cost", "cost 1")
        for desk in self.desks()[2:]:
            self.refused(desk, BadCommand, "cost", "cost 1 2")

    def test_words_of_steps_and_faults(self):
        for word in ("line", "station", "x", "Close", "CLOSE", "closes", "clos", "0", "-", "do", "load", "strike",
                     "none"):
            self.bad(f"do {word} 0", f"do {word} 999", f"do {word} x")
        for word in ("close", "open", "begin", "end", "feed", "drop", "x", "Line", "lines", "stations", "load", "0",
                     "-"):
            self.bad(f"strike {word} 0", f"loss {word} 0", f"strike {word} 999", f"loss {word} 01")
        self.bad("do 0 close", "strike 0 line", "loss 0 station", "do close-0 0", "strike line-0 0")

    def test_what_is_not_a_number(self):
        for word in NO_NUMBERS:
            # whether or not the step or the fault would be allowed
            self.bad(f"do close {word}", f"do open {word}", f"do drop {word}", f"do begin {word}",
                     f"strike line {word}", f"strike station {word}", f"loss line {word}", f"loss station {word}", f"play {word}",
                     f"play {word} 1", f"play 1 {word}", f"play 0 0 0 0 0 {word}", f"cost {word}")
        for desk in self.desks()[:2]:
            for word in NO_NUMBERS:
                self.refused(desk, BadCommand, f"cost {word} 1", f"cost 1 {word}")

    def test_numbers(self):
        for k in (0, 1, 2, 9, 10, 99, 100, 101, 999):
            self.asked(Desk((ALONE, []), 0), (f"play {k}", "2"), (f"cost {k}", "0"), (f"play {k} {k} {k}", "2"))
            desk = Desk((ROW, ROW_FAULTS), 2)
            if k > 1:
                self.refused(desk, NotAllowed, f"do close {k}", f"strike line {k}", f"loss line {k}")
            else:
                self.asked(desk, (f"do close {k}", f"{k} - - 2"))

    def test_they_are_looked_for_before_anything_else(self):
        # Each of these would be refused otherwise, too.
        desk = Desk((VAST, VAST_FAULTS), 0)
        self.refused(desk, BadCommand, "decide 1", "next 1", "play -1", "play x", "play 1000", "strike line 00",
                     "strike line", "strike load 0", "loss line 08", "do open 00", "do begin -1", "cost 1 2 3",
                     "cost 1 2 3 4 5", "cost 1000 0 0 0", "cost 0 0 0 -1")
        self.refused(desk, TooLong, "decide", "next", "play", "play 1")
        self.refused(desk, NotAllowed, "strike line 0", "loss line 0", "do open 0", "do begin 9")

    def test_all_exceptions_are_those_of_the_program(self):
        random = Random(72)
        words = ["state", "do", "strike", "loss", "cost", "play", "close", "line", "0", "1", "00", "-1", "x", "",
                 "\u0661"]
        task = (TWIN, [("line", 0), ("station", 0)])
        desk = Desk(task, 5)
        told = {}
        for _ in range(3000):
            command = random_command(random, task).split(" ")
            if random.random() < 0.3:
                command.insert(random.randrange(len(command) + 1), random.choice(words))
            if random.random() < 0.3:
                command[random.randrange(len(command))] = random.choice(words)
            before = desk.ask("state")
            try:
                answer = desk.ask(" ".join(command))
            except LightError as error:
                self.assertEqual(desk.ask("state"), before)
                told[type(error)] = told.get(type(error), 0) + 1
            else:
                self.assertIs(type(answer), str)
                self.assertEqual(answer, " ".join(answer.split()))
        self.assertEqual(set(told), {BadCommand, NotAllowed})
        self.assertGreater(min(told.values()), 400)


class ListsTest(DeskCase):
    commands = ["state", "islands", "steps", "worst", "cost 3 4", "decide", "next", "play", "play 1 2 1", "do close 0",
                "do begin 0", "do feed 0", "decide", "next", "loss line 0", "worst", "strike line 0", "state", "decide",
                "do close 1", "do close 0", "steps", "do feed 0", "cost 2 1", "next", "play 1", "islands"]

    def test_a_task_that_is_changed_later_changes_no_answer(self):
        wanted = [Desk((ROW, ROW_FAULTS), 2)]
        wanted = [wanted[0].ask(command) for command in self.commands]
        for at in range(len(self.commands)):
            net, faults = copy.deepcopy((ROW, ROW_FAULTS))
            desk = Desk((net, faults), 2)
            found = [desk.ask(command) for command in self.commands[:at]]
            net[1].clear()
            net[2][0] = (0, 9, 9, False)
            net[2].append((0, 0, 1000, True))
            net[3].reverse()
            net[3].append((3, 7))
            faults.pop()
            faults.append(("station", 0))
            found += [desk.ask(command) for command in self.commands[at:]]
            self.assertEqual(found, wanted)

    def test_the_task_stays_as_it_is(self):
        task = (ROW, ROW_FAULTS)
        before = copy.deepcopy(task)
        desk = Desk(task, 2)
        for command in self.commands:
            desk.ask(command)
        self.assertEqual(task, before)

    def test_desks_do_not_share_their_places(self):
        task = (ROW, ROW_FAULTS)
        first, second = Desk(task, 2), Desk(task, 5)
        self.asked(first, ("do close 0", "0 - - 2"), ("do begin 0", "0 0 - 2"), ("strike line 0", "- 0 - 1"))
        self.asked(second, ("state", "- - - 5"), ("do close 1", "1 - - 5"))
        self.asked(first, ("state", "- 0 - 1"))

    def test_commands_that_only_tell_change_nothing(self):
        desk = desk_at((ROW, ROW_FAULTS), 2, ["do close 0", "do begin 0", "do feed 0"])
        for command in ("state", "islands", "steps", "loss line 0", "worst", "cost 1 2", "decide", "next", "play",
                        "play 1 1 1"):
            before = self.seen(desk)
            first = desk.ask(command)
            self.assertEqual(self.seen(desk), before)
            self.assertEqual(desk.ask(command), first)


if __name__ == "__main__":
    unittest.main()
