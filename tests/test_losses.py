"""Promises 2, 28 and 29: losses of faults, harmful faults, secure states and worst losses."""

import copy
import unittest
from random import Random

from relume.errors import NotAllowed
from relume.losses import harmful_faults, is_secure, loss_of, worst_losses
from relume.moves import after_fault, is_sound, settled
from tests.helper import (ALL, DARK, GREAT, GREAT_STATE, RING, TASKS, WHOLE, all_states, assert_fresh,
                          assert_plain, assert_unchanged, assert_unchanged_when_raised, chain, full,
                          inner_items, random_part, wanted_fault, wanted_islands, wanted_loss, wanted_worst)

HUGE = 10 ** 30

# A station at each end, a line between them, and a load at each end that needs the line.
PAIR = (2, [(0, 1, 1, 5)], [(0, 0, 8, True), (1, 2, 6, False)], [(0, 3), (1, 9)])
PAIR_STATE = ((0,), (0, 1), (0, 1))

# Two lines beside each other, and two stations, of which one of each is enough.
SAFE = (2, [(0, 1, 1, 5), (0, 1, 1, 5)], [(0, 0, 9, True), (0, 0, 9, False)], [(1, 5)])
SAFE_STATE = ((0, 1), (0, 1), (0,))

# A chain of nodes that is fed from its first one, with a load at each other one.
ROW = (5, [(k, k + 1, 1, 20) for k in range(4)], [(0, 0, 20, True)], [(k + 1, k + 1) for k in range(4)])
ROW_STATE = ((0, 1, 2, 3), (0,), (0, 1, 2, 3))

# A triangle whose line 2 bears the load only if the two others are closed beside it.
MESH = (3, [(0, 1, 1, 10), (1, 2, 1, 10), (0, 2, 1, 7)], [(0, 0, 10, True), (1, 0, 1, True)],
        [(2, 9), (1, 1)])
MESH_STATE = ((0, 1, 2), (0, 1), (0, 1))

# 8 nodes, 8 lines, 4 stations, 4 loads; all of it is needed.
WIDE = (8, [(0, 1, 1, 9), (2, 3, 1, 9), (4, 5, 1, 9), (6, 7, 1, 9), (1, 2, 1, 0), (3, 4, 1, 0), (5, 6, 1, 0),
            (0, 7, 1, 0)],
        [(k, 0, 9, True) for k in (0, 2, 4, 6)], [(k, 1) for k in (1, 3, 5, 7)])
WIDE_STATE = ((0, 1, 2, 3), (0, 1, 2, 3), (0, 1, 2, 3))


def all_faults(net):
    """Return the faults of all lines and stations of the net."""
    return [(word, k) for at, word in enumerate(("line", "station")) for k in range(len(net[at + 1]))]


def wanted_harmful(task, state):
    """Return the harmful told faults, by the words of promise 28."""
    return [fault for fault in task[1] if wanted_fault(task[0], state, fault) is not None
            and any(wanted_loss(task[0], state, fault))]


def random_state(random, net):
    """Return a sound state of the net with much closed and running."""
    return settled(net, tuple(random_part(random, len(items), 0.85) for items in net[1:]))


class LossCase(unittest.TestCase):
    def loses(self, net, state, fault, stations, loads):
        with self.subTest(net=net, state=state, fault=fault):
            self.assertIs(is_sound(net, state), True)
            found = assert_unchanged(self, loss_of, net, state, fault)
            self.assertEqual(found, (stations, loads))
            self.assertIs(type(found), tuple)
            self.assertEqual([type(part) for part in found], [list, list])
            assert_plain(self, found)

    def refused(self, net, state, *faults):
        for fault in faults:
            with self.subTest(net=net, state=state, fault=fault):
                assert_unchanged_when_raised(self, NotAllowed, loss_of, net, state, fault)


class LossOfTest(LossCase):
    def test_nothing_is_lost(self):
        for fault in all_faults(SAFE):
            self.loses(SAFE, SAFE_STATE, fault, [], [])
        self.loses(chain(1, 9, 0, 9, 5), ((0,), (0,), ()), ("line", 0), [], [])
        self.loses(chain(1, 9, 0, 9, 5), ((0,), (), ()), ("line", 0), [], [])

    def test_the_struck_station_is_no_loss(self):
        self.loses(chain(1, 9, 0, 9, 5), ((0,), (0,), ()), ("station", 0), [], [])
        self.loses(chain(1, 9, 0, 9, 5), ALL, ("station", 0), [], [0])
        self.loses(PAIR, ((), (0,), (0,)), ("station", 0), [], [0])

    def test_a_station_that_stops_with_it_is_a_loss(self):
        self.loses(PAIR, PAIR_STATE, ("station", 0), [1], [0, 1])
        self.loses(PAIR, PAIR_STATE, ("station", 1), [0], [0, 1])
        # the same index as that of the line
        self.loses(PAIR, PAIR_STATE, ("line", 0), [1], [1])
        net = (2, [(0, 1, 1, 9)], [(0, 5, 9, True)], [(1, 5)])
        self.loses(net, ALL, ("line", 0), [0], [0])
        self.loses(net, ALL, ("station", 0), [], [0])

    def test_a_load_behind_a_line(self):
        for k in range(4):
            self.loses(ROW, ROW_STATE, ("line", k), [], list(range(k, 4)))
        self.loses(ROW, ROW_STATE, ("station", 0), [], [0, 1, 2, 3])
        self.loses(ROW, (ROW_STATE[0], (0,), (0, 2)), ("line", 1), [], [2])
        self.loses(ROW, (ROW_STATE[0], (0,), (0, 2)), ("line", 3), [], [])

    def test_an_island_that_cannot_run_any_more_is_lost_whole(self):
        # Without the lines beside it, the line 2 would bear too much.
        self.loses(MESH, MESH_STATE, ("line", 0), [0, 1], [0, 1])
        self.loses(MESH, MESH_STATE, ("line", 1), [0, 1], [0, 1])
        self.loses(MESH, MESH_STATE, ("line", 2), [], [])
        self.loses(MESH, MESH_STATE, ("station", 0), [1], [0, 1])
        self.loses(MESH, MESH_STATE, ("station", 1), [], [])

    def test_other_islands_lose_nothing(self):
        for k in range(4):
            self.loses(WIDE, WIDE_STATE, ("line", k), [], [k])
            self.loses(WIDE, WIDE_STATE, ("station", k), [], [k])
        # the line 6, which bears nothing, joins two of them
        self.loses(GREAT, GREAT_STATE, ("line", 2), [0, 1], [0, 1])
        self.loses(GREAT, GREAT_STATE, ("line", 6), [], [])
        self.loses(GREAT, GREAT_STATE, ("line", 3), [2], [2])
        self.loses(GREAT, GREAT_STATE, ("station", 0), [1], [0, 1])

    def test_full_and_other_states(self):
        self.assertTrue(full(ROW, ROW_STATE))
        self.loses(ROW, ((0, 1, 2, 3), (0,), ()), ("station", 0), [], [])

    def test_faults_that_cannot_strike(self):
        self.refused(chain(1, 9, 0, 9, 5), DARK, ("line", 0), ("station", 0))
        self.refused(PAIR, ((), (0,), (0,)), ("line", 0), ("station", 1))
        self.refused(WIDE, WIDE_STATE, ("line", 4), ("line", 5), ("line", 6), ("line", 7))

    def test_indexes_that_do_not_exist(self):
        for net, state in ((PAIR, PAIR_STATE), (SAFE, SAFE_STATE), (WIDE, WIDE_STATE), ((1, [], [], []), DARK)):
            for word, at in (("line", 1), ("station", 2)):
                many = len(net[at])
                for k in (many, many + 1, -1, -2, -many, -many - 1, 8, HUGE, -HUGE):
                    if k != 0:
                        self.refused(net, state, (word, k))

    def test_small_nets(self):
        told = {}
        for task, places in TASKS:
            net = task[0]
            for state, _ in places:
                for fault in all_faults(net):
                    if wanted_fault(net, state, fault) is None:
                        self.refused(net, state, fault)
                        continue
                    wanted = wanted_loss(net, state, fault)
                    self.loses(net, state, fault, *wanted)
                    kind = (fault[0], bool(wanted[0]), bool(wanted[1]))
                    told[kind] = told.get(kind, 0) + 1
        # A station that feeds no load stops without a loss, so no fault of one costs only stations.
        self.assertEqual(len(told), 7)
        self.assertNotIn(("station", True, False), told)

    def test_greatest_nets(self):
        random = Random(61)
        some = 0
        for _ in range(60):
            state = random_state(random, RING)
            for fault in all_faults(RING):
                if wanted_fault(RING, state, fault) is not None:
                    wanted = wanted_loss(RING, state, fault)
                    self.loses(RING, state, fault, *wanted)
                    some += any(wanted)
        self.assertGreater(some, 30)

    def test_lists_are_new(self):
        assert_fresh(self, loss_of, PAIR, PAIR_STATE, ("line", 0))
        assert_fresh(self, loss_of, SAFE, SAFE_STATE, ("line", 0))
        assert_fresh(self, loss_of, ROW, ROW_STATE, ("station", 0))


class HarmfulTest(unittest.TestCase):
    def harmful(self, task, state, wanted):
        with self.subTest(task=task, state=state):
            found = assert_unchanged(self, harmful_faults, task, state)
            self.assertEqual(found, wanted)
            self.assertIs(type(found), list)
            assert_plain(self, found)
            secure = assert_unchanged(self, is_secure, task, state)
            self.assertIs(secure, not wanted)

    def test_no_told_faults(self):
        for net, state in ((PAIR, PAIR_STATE), (SAFE, SAFE_STATE), (ROW, ROW_STATE), ((1, [], [], []), DARK)):
            self.harmful((net, []), state, [])

    def test_a_fault_that_takes_nothing_with_it(self):
        self.harmful((SAFE, all_faults(SAFE)), SAFE_STATE, [])
        self.harmful((chain(1, 9, 0, 9, 5), [("line", 0), ("station", 0)]), ((0,), (0,), ()), [])

    def test_a_fault_that_cannot_strike(self):
        self.harmful((PAIR, all_faults(PAIR)), DARK, [])
        self.harmful((PAIR, all_faults(PAIR)), ((0,), (), ()), [])
        self.harmful((PAIR, [("line", 0), ("station", 1)]), ((), (0,), (0,)), [])

    def test_only_told_faults(self):
        self.harmful((MESH, [("line", 2), ("station", 1)]), MESH_STATE, [])
        self.harmful((MESH, [("line", 2), ("station", 0)]), MESH_STATE, [("station", 0)])

    def test_their_order(self):
        faults = [("station", 0), ("line", 2), ("line", 1), ("station", 1), ("line", 0)]
        self.harmful((MESH, faults), MESH_STATE, [("station", 0), ("line", 1), ("line", 0)])
        self.harmful((MESH, faults[::-1]), MESH_STATE, [("line", 0), ("line", 1), ("station", 0)])

    def test_a_loss_of_stations_or_of_loads_is_enough(self):
        # two stations of which one has a least output that only the other's node takes
        net = (2, [(0, 1, 1, 9)], [(0, 0, 9, True), (1, 2, 9, True)], [(0, 3)])
        self.harmful((net, [("line", 0), ("station", 0), ("station", 1)]), ((0,), (0, 1), (0,)), [("line", 0)])
        self.assertEqual(loss_of(net, ((0,), (0, 1), (0,)), ("line", 0)), ([1], []))
        self.harmful((chain(1, 9, 0, 9, 5), [("line", 0)]), ALL, [("line", 0)])
        self.assertEqual(loss_of(chain(1, 9, 0, 9, 5), ALL, ("line", 0)), ([], [0]))

    def test_eight_told_faults(self):
        faults = [(word, k) for k in range(4) for word in ("station", "line")]
        self.harmful((WIDE, faults), WIDE_STATE, faults)
        state = ((0, 1, 2, 3), (0, 1, 2, 3), (0, 2))
        self.harmful((WIDE, faults), state, [("station", 0), ("line", 0), ("station", 2), ("line", 2)])
        self.harmful((WIDE, faults), (WIDE_STATE[0], WIDE_STATE[1], ()), [])

    def test_small_nets(self):
        told = {True: 0, False: 0}
        for task, places in TASKS:
            for state, _ in places:
                for faults in (task[1], all_faults(task[0]), all_faults(task[0])[::-1]):
                    wanted = wanted_harmful((task[0], faults), state)
                    told[bool(wanted)] += 1
                    self.harmful((task[0], faults), state, wanted)
        self.assertGreater(min(told.values()), 60)

    def test_greatest_nets(self):
        random = Random(62)
        told = {True: 0, False: 0}
        for net in (RING, GREAT):
            for _ in range(40):
                state = random_state(random, net)
                task = (net, random.sample(all_faults(net), 8))
                wanted = wanted_harmful(task, state)
                told[bool(wanted)] += 1
                self.harmful(task, state, wanted)
        self.assertGreater(min(told.values()), 10)

    def test_lists_are_new(self):
        assert_fresh(self, harmful_faults, (MESH, all_faults(MESH)), MESH_STATE)
        assert_fresh(self, harmful_faults, (SAFE, all_faults(SAFE)), SAFE_STATE)

    def test_a_list_that_is_changed_later_is_looked_at_again(self):
        task = (copy.deepcopy(PAIR), [("line", 0), ("station", 0)])
        found = harmful_faults(task, PAIR_STATE)
        self.assertEqual(found, [("line", 0), ("station", 0)])
        task[1].pop()
        self.assertEqual(found, [("line", 0), ("station", 0)])
        self.assertEqual(harmful_faults(task, PAIR_STATE), [("line", 0)])
        self.assertEqual(worst_losses(task, PAIR_STATE, 1), 1)
        task[0][3].pop()
        self.assertEqual(harmful_faults(task, ((0,), (0,), (0,))), [])
        self.assertEqual(worst_losses(task, ((0,), (0,), (0,)), 1), 0)


class WorstTest(unittest.TestCase):
    def worst(self, task, state, *wanted):
        """Check the worst losses for 0, 1, .. strikes."""
        for strikes, number in enumerate(wanted):
            with self.subTest(task=task, state=state, strikes=strikes):
                found = assert_unchanged(self, worst_losses, task, state, strikes)
                self.assertEqual(found, number)
                self.assertIs(type(found), int)

    def test_no_strikes(self):
        for net, state in ((PAIR, PAIR_STATE), (ROW, ROW_STATE), (WIDE, WIDE_STATE), ((1, [], [], []), DARK)):
            self.worst((net, all_faults(net)[:8]), state, 0)

    def test_no_told_faults(self):
        for net, state in ((PAIR, PAIR_STATE), (ROW, ROW_STATE), (WIDE, WIDE_STATE), ((1, [], [], []), DARK)):
            self.worst((net, []), state, 0, 0, 0, 0, 0, 0)

    def test_no_fault_that_can_strike(self):
        self.worst((PAIR, all_faults(PAIR)), DARK, 0, 0, 0, 0, 0, 0)
        self.worst((WIDE, [("line", 4), ("line", 5)]), WIDE_STATE, 0, 0, 0)

    def test_one_fault(self):
        self.worst((PAIR, [("line", 0)]), PAIR_STATE, 0, 1, 1, 1)
        self.worst((PAIR, [("station", 0)]), PAIR_STATE, 0, 2, 2, 2)
        for k in range(4):
            self.worst((ROW, [("line", k)]), ROW_STATE, 0, 4 - k, 4 - k)

    def test_faults_one_after_the_other(self):
        self.worst((PAIR, [("line", 0), ("station", 0)]), PAIR_STATE, 0, 2, 2)
        # neither line alone is missed, nor is either station
        self.worst((SAFE, all_faults(SAFE)), SAFE_STATE, 0, 0, 1, 1, 1, 1)
        self.worst((SAFE, [("line", 0), ("station", 0)]), SAFE_STATE, 0, 0, 0, 0)
        self.worst((SAFE, [("line", 0), ("station", 0), ("line", 1)]), SAFE_STATE, 0, 0, 1, 1)
        # a load with each strike
        faults = [("line", k) for k in range(4)] + [("station", k) for k in range(4)]
        self.worst((WIDE, faults), WIDE_STATE, 0, 1, 2, 3, 4, 4)
        self.worst((WIDE, faults[2:6]), WIDE_STATE, 0, 1, 2, 3, 4, 4)
        self.worst((WIDE, [("line", 0), ("station", 0), ("line", 1)]), WIDE_STATE, 0, 1, 2, 2)

    def test_the_greatest_first_loss_is_not_always_the_beginning_of_the_worst(self):
        # One strike drops two loads at most, but two drop three only if the first one drops none or one.
        net = (4, [(0, 1, 1, 9), (0, 1, 1, 9), (0, 2, 1, 9), (0, 3, 1, 9)], [(0, 0, 9, True)],
               [(1, 1), (1, 1), (1, 1), (2, 1)])
        state = ((0, 1, 2, 3), (0,), (0, 1, 2, 3))
        faults = [("line", 2), ("line", 0), ("line", 1)]
        self.worst((net, faults), state, 0, 1, 3, 4, 4, 4)
        self.worst((net, faults[1:]), state, 0, 0, 3, 3, 3, 3)

    def test_a_strike_may_keep_another_one_from_striking(self):
        # The station 0 stops when the line opens, and is not there to be struck.
        net = (2, [(0, 1, 1, 9)], [(0, 5, 9, True), (1, 0, 9, True)], [(1, 5), (1, 1)])
        state = ((0,), (0, 1), (0, 1))
        task = (net, [("line", 0), ("station", 1), ("station", 0)])
        self.worst(task, state, 0, 0, 2, 2)
        self.assertEqual(after_fault(net, state, ("line", 0)), ((), (1,), (0, 1)))

    def test_strikes_that_are_left_are_not_used(self):
        self.worst((ROW, [("line", 3), ("line", 1)]), ROW_STATE, 0, 3, 3, 3, 3, 3)

    def test_full_states_and_others(self):
        for fed in ((), (0,), (1, 3), (0, 1, 2, 3)):
            state = (ROW_STATE[0], ROW_STATE[1], fed)
            self.worst((ROW, [("station", 0)]), state, 0, len(fed), len(fed))

    def test_small_nets(self):
        told = {}
        for task, places in TASKS:
            for state, _ in places:
                for faults in (task[1], all_faults(task[0])[:8]):
                    for strikes in range(4):
                        wanted = wanted_worst((task[0], faults), state, strikes)
                        with self.subTest(task=task, faults=faults, state=state, strikes=strikes):
                            self.assertEqual(worst_losses((task[0], faults), state, strikes), wanted)
                        told[wanted] = told.get(wanted, 0) + 1
        self.assertGreater(min(told.get(number, 0) for number in range(3)), 30)

    def test_all_states_of_a_net(self):
        task = (MESH, [("line", 1), ("station", 0), ("line", 2), ("station", 1), ("line", 0)])
        for state in all_states(MESH):
            if is_sound(MESH, state):
                for strikes in range(4):
                    self.worst(task, state, *[wanted_worst(task, state, n) for n in range(strikes)])

    def test_greatest_nets(self):
        random = Random(63)
        told = {}
        for net in (RING, GREAT, WIDE):
            for _ in range(5):
                state = random_state(random, net)
                task = (net, random.sample(all_faults(net), 8))
                wanted = [wanted_worst(task, state, strikes) for strikes in range(3)]
                self.worst(task, state, *wanted)
                told[wanted[2]] = told.get(wanted[2], 0) + 1
                last = worst_losses(task, state, 5)
                self.assertGreaterEqual(last, wanted[2])
                self.assertLessEqual(last, len(state[2]))
        self.assertGreater(len(told), 2)

    def test_eight_faults_and_five_strikes(self):
        # Each of 3 strikes drops a load at the end of a line; 4 part all stations from all loads.
        star = (8, [(k, 7, 1, 40) for k in range(7)] + [(0, 1, 1, 40)],
                [(0, 0, 40, True), (1, 0, 40, True), (2, 0, 40, True), (3, 0, 40, True)],
                [(4, 5), (5, 5), (6, 5), (7, 5)])
        lines = [("line", k) for k in range(8)]
        self.worst((star, lines), WHOLE, 0, 1, 2, 3, 4, 4)
        stations = [("station", k) for k in range(4)]
        self.worst((star, stations + lines[:4]), WHOLE, 0, 0, 0, 0, 4, 4)
        self.assertEqual(len(wanted_islands(star, WHOLE[0])), 1)
        self.assertEqual(len(inner_items(star, WHOLE, list(range(8)))[2]), 4)

    def test_the_sum_of_the_losses_on_the_way(self):
        # Promise 29 with the program's own losses, so that losses and worst losses go together.
        random = Random(64)
        for task, places in TASKS:
            for state, _ in places:
                here, total = state, 0
                for strikes in range(1, 5):
                    able = [fault for fault in task[1] if wanted_fault(task[0], here, fault) is not None]
                    if not able:
                        break
                    fault = random.choice(able)
                    total += len(loss_of(task[0], here, fault)[1])
                    here = after_fault(task[0], here, fault)
                    self.assertLessEqual(total, worst_losses(task, state, strikes))


if __name__ == "__main__":
    unittest.main()
