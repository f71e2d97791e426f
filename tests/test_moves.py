"""Promises 2 and 13 to 17: sound states, steps, faults, tasks, places and answers."""

import copy
import unittest
from random import Random

from relume.errors import BadNet, BadState, NotAllowed
from relume.moves import (after_fault, after_step, answers, check_place, check_task, is_sound,
                          settled, steps_of)
from tests.helper import (DARK, TWIN, WORDS, all_states, assert_fresh, assert_plain, assert_unchanged,
                          assert_unchanged_when_raised, full, random_part, wanted_answers, wanted_fault,
                          wanted_settled, wanted_sound, wanted_step, wanted_steps)

HUGE = 10 ** 30

# A station that begins by itself, one that does not, a line between them, and a load at each.
PAIR = (2, [(0, 1, 1, 5)], [(0, 0, 8, True), (1, 2, 6, False)], [(0, 3), (1, 4)])

# One node: a load that only both stations together can feed.
NODE = (1, [], [(0, 0, 3, True), (0, 1, 3, False)], [(0, 5), (0, 1)])

# A line that bears less the more lines are closed, and a node apart.
MESH = (4, [(0, 1, 1, 10), (1, 2, 1, 10), (0, 2, 8, 3)], [(0, 0, 10, True), (3, 0, 0, True)],
        [(2, 10), (3, 1)])

# The greatest nets.
RING = (8, [(k, k + 1, 1, 9) for k in range(7)] + [(0, 7, 1, 9)],
        [(0, 0, 20, True), (2, 0, 6, False), (4, 3, 9, False), (6, 0, 0, True)],
        [(1, 5), (3, 6), (5, 7), (7, 4)])
STAR = (8, [(k, 7, 2, 6) for k in range(7)] + [(0, 1, 1, 0)],
        [(0, 0, 6, True), (1, 1, 6, True), (2, 2, 2, False), (7, 0, 4, False)],
        [(3, 6), (4, 5), (5, 1), (1, 2)])

SMALL = [PAIR, NODE, TWIN, MESH,
         (1, [], [], []), (1, [], [], [(0, 1)]), (1, [], [(0, 0, 0, True)], []),
         (1, [], [(0, 1, 1, True)], []), (2, [(0, 1, 1, 0)], [], []),
         # a least output that needs a load first, and another station that takes its place
         (2, [(0, 1, 3, 4)], [(0, 2, 4, True), (1, 0, 4, False)], [(1, 2), (1, 2)]),
         (3, [(0, 1, 1, 3), (0, 2, 1, 3), (1, 2, 1, 3)], [(0, 0, 6, True), (1, 1, 2, False)],
          [(2, 3), (2, 2)])]


def random_states(random, net, many):
    """Return states of the net, mostly with much closed and running."""
    return [tuple(random_part(random, len(items), chance) for items, chance in zip(net[1:], (0.8, 0.8, 0.5)))
            for _ in range(many)]


def some_states():
    """Return nets with states: all states of small nets, some of the greatest ones."""
    random = Random(21)
    found = [(net, state) for net in SMALL for state in all_states(net)]
    for net in (RING, STAR):
        found += [(net, state) for state in random_states(random, net, 80)]
    return found


STATES = some_states()


def steps_to_try(net):
    """Return all steps whose indexes exist, and some whose indexes do not."""
    return [(word, k) for at, word in enumerate(WORDS)
            for k in list(range(len(net[at // 2 + 1]) + 2)) + [-1, -2, -8, 8, HUGE, -HUGE]]


def faults_to_try(net):
    return [(word, k) for at, word in enumerate(("line", "station"))
            for k in list(range(len(net[at + 1]) + 2)) + [-1, -2, -8, 8, HUGE, -HUGE]]


class SoundTest(unittest.TestCase):
    def sound(self, wanted, net, state):
        with self.subTest(net=net, state=state):
            self.assertIs(assert_unchanged(self, is_sound, net, state), wanted)

    def test_dark_state(self):
        for net in SMALL + [RING, STAR]:
            self.sound(True, net, DARK)

    def test_lines_of_dark_islands_do_not_matter(self):
        for net in SMALL + [RING, STAR]:
            self.sound(True, net, (tuple(range(len(net[1]))), (), ()))

    def test_fed_load_in_a_dark_island(self):
        self.sound(False, PAIR, ((), (), (0,)))
        self.sound(False, PAIR, ((0,), (), (1,)))
        self.sound(False, PAIR, ((), (0,), (1,)))
        self.sound(True, PAIR, ((0,), (0,), (1,)))
        self.sound(False, PAIR, ((), (0,), (0, 1)))

    def test_lit_island_that_is_not_feasible(self):
        self.sound(False, PAIR, ((), (1,), ()))
        self.sound(True, PAIR, ((), (1,), (1,)))
        self.sound(True, PAIR, ((0,), (1,), (0,)))
        self.sound(False, PAIR, ((0,), (1,), (0, 1)))
        self.sound(True, PAIR, ((0,), (0, 1), (0, 1)))
        self.sound(False, PAIR, ((), (0, 1), (0,)))

    def test_one_island_of_several_is_enough(self):
        self.sound(True, MESH, ((0, 1), (0, 1), (0,)))
        self.sound(False, MESH, ((0, 1, 2), (0, 1), (0,)))
        self.sound(False, MESH, ((0, 1), (0, 1), (0, 1)))
        self.sound(False, MESH, ((0, 1), (0,), (0, 1)))

    def test_all_states(self):
        told = {True: 0, False: 0}
        for net, state in STATES:
            wanted = wanted_sound(net, state)
            told[wanted] += 1
            self.sound(wanted, net, state)
        self.assertGreater(min(told.values()), 100)


class SettledTest(unittest.TestCase):
    def settles(self, net, state, wanted):
        with self.subTest(net=net, state=state):
            found = assert_unchanged(self, settled, net, state)
            self.assertEqual(found, wanted)
            self.assertEqual([type(part) for part in found], [tuple] * 3)
            assert_plain(self, found)

    def test_loads_in_dark_islands_are_dropped(self):
        self.settles(PAIR, ((), (), (0, 1)), ((), (), ()))
        self.settles(PAIR, ((0,), (), (1,)), ((0,), (), ()))
        self.settles(PAIR, ((), (0,), (0, 1)), ((), (0,), (0,)))

    def test_stations_of_an_island_that_is_not_feasible_stop_and_its_loads_are_dropped(self):
        self.settles(PAIR, ((), (1,), ()), ((), (), ()))
        self.settles(PAIR, ((), (0, 1), (0,)), ((), (0,), (0,)))
        self.settles(PAIR, ((0,), (1,), (0, 1)), ((0,), (), ()))
        self.settles(NODE, ((), (0,), (0,)), ((), (), ()))
        self.settles(NODE, ((), (0, 1), (0, 1)), ((), (0, 1), (0, 1)))
        self.settles(NODE, ((), (0, 1), ()), ((), (), ()))

    def test_lines_stay_and_other_islands_too(self):
        self.settles(MESH, ((0, 1, 2), (0, 1), (0,)), ((0, 1, 2), (1,), ()))
        self.settles(MESH, ((0, 1), (0, 1), (0, 1)), ((0, 1), (0,), (0,)))
        self.settles(MESH, ((2,), (0, 1), (0, 1)), ((2,), (), ()))
        self.settles(RING, ((0, 4), (0, 1, 2), (0, 1, 2)), ((0, 4), (0, 1, 2), (0, 2)))

    def test_no_lit_island_settles_to_less_than_it_must(self):
        self.settles(PAIR, ((0,), (0, 1), (0, 1)), ((0,), (0, 1), (0, 1)))
        self.settles(PAIR, ((0,), (0,), ()), ((0,), (0,), ()))

    def test_all_states(self):
        changed = 0
        for net, state in STATES:
            wanted = wanted_settled(net, state)
            changed += wanted != state
            self.settles(net, state, wanted)
            # The settled state is sound, and a sound state settles to itself.
            self.assertIs(is_sound(net, wanted), True)
            self.assertEqual(settled(net, wanted), wanted)
            self.assertEqual(is_sound(net, state), wanted == state)
        self.assertGreater(changed, 300)


class StepTest(unittest.TestCase):
    def goes(self, net, state, step, wanted):
        with self.subTest(net=net, state=state, step=step):
            found = assert_unchanged(self, after_step, net, state, step)
            self.assertEqual(found, wanted)
            self.assertEqual([type(part) for part in found], [tuple] * 3)
            assert_plain(self, found)

    def refused(self, net, state, *steps):
        for step in steps:
            with self.subTest(net=net, state=state, step=step):
                assert_unchanged_when_raised(self, NotAllowed, after_step, net, state, step)

    def test_close_and_open(self):
        self.goes(TWIN, DARK, ("close", 1), ((1,), (), ()))
        self.goes(TWIN, ((1,), (), ()), ("close", 0), ((0, 1), (), ()))
        self.goes(TWIN, ((0, 1), (), ()), ("open", 0), ((1,), (), ()))
        self.refused(TWIN, ((0,), (), ()), ("close", 0), ("open", 1))
        # the fed load must not lose its last line
        self.goes(TWIN, ((0, 1), (0,), (0,)), ("open", 1), ((0,), (0,), (0,)))
        self.refused(TWIN, ((0,), (0,), (0,)), ("open", 0))
        # closing may make an island infeasible
        self.refused(MESH, ((0, 1), (0,), (0,)), ("close", 2))
        self.goes(MESH, ((0, 1), (0,), ()), ("close", 2), ((0, 1, 2), (0,), ()))

    def test_closing_joins_a_lit_island_and_a_dark_one(self):
        self.goes(PAIR, ((), (0,), (0,)), ("close", 0), ((0,), (0,), (0,)))
        self.goes(PAIR, ((), (0, 1), (0, 1)), ("close", 0), ((0,), (0, 1), (0, 1)))

    def test_begin(self):
        self.goes(PAIR, DARK, ("begin", 0), ((), (0,), ()))
        self.refused(PAIR, ((), (0,), ()), ("begin", 0))
        # the station 1 does not begin by itself, and its least output needs a load
        self.refused(PAIR, DARK, ("begin", 1))
        self.refused(PAIR, ((0,), (), ()), ("begin", 1))
        self.refused(PAIR, ((), (0,), ()), ("begin", 1))
        self.refused(PAIR, ((0,), (0,), ()), ("begin", 1))
        self.goes(PAIR, ((0,), (0,), (1,)), ("begin", 1), ((0,), (0, 1), (1,)))

    def test_begin_needs_light_where_the_station_is(self):
        net = (3, [(0, 1, 1, 9), (1, 2, 1, 9)], [(0, 0, 9, True), (2, 0, 9, False), (2, 0, 9, False)], [])
        self.refused(net, DARK, ("begin", 1), ("begin", 2))
        self.refused(net, ((0, 1), (), ()), ("begin", 1), ("begin", 2))
        self.refused(net, ((0,), (0,), ()), ("begin", 1), ("begin", 2))
        self.refused(net, ((1,), (0,), ()), ("begin", 1), ("begin", 2))
        self.goes(net, ((0, 1), (0,), ()), ("begin", 1), ((0, 1), (0, 1), ()))
        self.goes(net, ((0, 1), (0, 1), ()), ("begin", 2), ((0, 1), (0, 1, 2), ()))
        # another station at the same node is light enough, whether it began by itself or not
        self.goes(net, ((), (1,), ()), ("begin", 2), ((), (1, 2), ()))
        self.goes(net, ((), (2,), ()), ("begin", 1), ((), (1, 2), ()))

    def test_a_station_that_begins_by_itself_needs_no_light_but_must_be_feasible(self):
        net = (2, [], [(0, 1, 5, True), (1, 0, 0, True)], [(0, 3)])
        self.refused(net, DARK, ("begin", 0))
        self.goes(net, DARK, ("begin", 1), ((), (1,), ()))

    def test_end(self):
        self.goes(PAIR, ((), (0,), ()), ("end", 0), DARK)
        self.refused(PAIR, DARK, ("end", 0), ("end", 1))
        self.refused(PAIR, ((), (0,), (0,)), ("end", 0))
        self.refused(PAIR, ((0,), (0, 1), (0, 1)), ("end", 0))
        self.goes(PAIR, ((0,), (0, 1), (0, 1)), ("end", 1), ((0,), (0,), (0, 1)))
        self.goes(PAIR, ((0,), (0, 1), (1,)), ("end", 1), ((0,), (0,), (1,)))
        self.goes(PAIR, ((0,), (0, 1), (1,)), ("end", 0), ((0,), (1,), (1,)))

    def test_feed(self):
        self.goes(PAIR, ((), (0,), ()), ("feed", 0), ((), (0,), (0,)))
        self.refused(PAIR, ((), (0,), (0,)), ("feed", 0), ("feed", 1))
        self.refused(PAIR, DARK, ("feed", 0), ("feed", 1))
        self.refused(NODE, ((), (0,), ()), ("feed", 0))
        self.goes(NODE, ((), (0, 1), (1,)), ("feed", 0), ((), (0, 1), (0, 1)))

    def test_drop(self):
        self.goes(PAIR, ((), (0,), (0,)), ("drop", 0), ((), (0,), ()))
        self.refused(PAIR, ((), (0,), (0,)), ("drop", 1))
        self.refused(PAIR, DARK, ("drop", 0))
        # without the load the least output is too much
        self.refused(PAIR, ((), (1,), (1,)), ("drop", 1))
        self.goes(PAIR, ((0,), (0, 1), (0, 1)), ("drop", 0), ((0,), (0, 1), (1,)))

    def test_steps_from_full_states(self):
        self.goes(PAIR, ((0,), (0, 1), (0, 1)), ("drop", 1), ((0,), (0, 1), (0,)))
        self.goes(TWIN, ((0,), (0,), (0,)), ("close", 1), ((0, 1), (0,), (0,)))

    def test_indexes_that_do_not_exist(self):
        for net in SMALL + [RING, STAR]:
            whole = tuple(tuple(range(len(items))) for items in net[1:])
            states = [DARK] + [whole] * wanted_sound(net, whole)
            for at, word in enumerate(WORDS):
                many = len(net[at // 2 + 1])
                for state in states:
                    for k in (many, many + 1, -1, -2, -many, -many - 1, 8, HUGE, -HUGE):
                        if k != 0:
                            self.refused(net, state, (word, k))

    def test_other_words(self):
        for word in ("", "line", "station", "Close", "closed", "begins", "fed"):
            self.refused(PAIR, ((0,), (0,), ()), (word, 0), (word, 1))

    def test_all_steps(self):
        told = {True: 0, False: 0}
        for net, state in STATES:
            if not wanted_sound(net, state):
                continue
            for step in steps_to_try(net):
                wanted = wanted_step(net, state, step)
                told[wanted is None] += 1
                if wanted is None:
                    self.refused(net, state, step)
                else:
                    self.goes(net, state, step, wanted)
        self.assertGreater(min(told.values()), 1000)


class StepsTest(unittest.TestCase):
    def steps(self, net, state, wanted):
        with self.subTest(net=net, state=state):
            found = assert_unchanged(self, steps_of, net, state)
            self.assertIs(type(found), list)
            self.assertEqual(found, wanted)
            self.assertEqual({type(step) for step in found} - {tuple}, set())

    def test_nothing_to_do(self):
        self.steps((1, [], [], []), DARK, [])
        self.steps((1, [], [], [(0, 1)]), DARK, [])
        self.steps((1, [], [(0, 0, 5, False)], [(0, 1)]), DARK, [])
        self.steps((1, [], [(0, 1, 5, True)], [(0, 1)]), DARK, [])

    def test_order(self):
        self.steps(TWIN, DARK, [("close", 0), ("close", 1), ("begin", 0)])
        self.steps(TWIN, ((1,), (0,), ()), [("close", 0), ("open", 1), ("end", 0), ("feed", 0)])
        self.steps(TWIN, ((0, 1), (0,), (0,)), [("open", 0), ("open", 1), ("drop", 0)])
        self.steps(PAIR, ((0,), (0, 1), (1,)),
                   [("open", 0), ("end", 0), ("end", 1), ("feed", 0)])
        net = (1, [], [(0, 0, 9, True)] * 4, [(0, 1)] * 4)
        self.steps(net, ((), (0, 2), (1, 3)),
                   [("begin", 1), ("begin", 3), ("end", 0), ("end", 2), ("feed", 0), ("feed", 2),
                    ("drop", 1), ("drop", 3)])

    def test_all_lines_of_a_dark_net(self):
        wanted = [("close", k) for k in range(8)] + [("begin", 0), ("begin", 3)]
        self.steps(RING, DARK, wanted)
        self.steps(STAR, DARK, [("close", k) for k in range(8)] + [("begin", 0)])
        whole = (tuple(range(8)), (), ())
        self.steps(RING, whole, [("open", k) for k in range(8)] + [("begin", 0), ("begin", 3)])

    def test_all_states(self):
        for net, state in STATES:
            if wanted_sound(net, state):
                self.steps(net, state, wanted_steps(net, state))

    def test_lists_are_new(self):
        for net, state in ((PAIR, ((0,), (0, 1), (1,))), ((1, [], [], []), DARK), (RING, DARK)):
            assert_fresh(self, steps_of, net, state)

    def test_a_list_that_is_changed_later_is_looked_at_again(self):
        net = copy.deepcopy(TWIN)
        state = ((0,), (0,), ())
        found = steps_of(net, state)
        self.assertIn(("feed", 0), found)
        net[1][0] = (0, 1, 1, 4)
        self.assertIn(("feed", 0), found)
        self.assertNotIn(("feed", 0), steps_of(net, state))
        self.assertRaises(NotAllowed, after_step, net, state, ("feed", 0))
        self.assertIs(is_sound(net, ((0,), (0,), (0,))), False)


class FaultTest(unittest.TestCase):
    def strikes(self, net, state, fault, wanted):
        with self.subTest(net=net, state=state, fault=fault):
            found = assert_unchanged(self, after_fault, net, state, fault)
            self.assertEqual(found, wanted)
            self.assertEqual([type(part) for part in found], [tuple] * 3)
            assert_plain(self, found)

    def refused(self, net, state, *faults):
        for fault in faults:
            with self.subTest(net=net, state=state, fault=fault):
                assert_unchanged_when_raised(self, NotAllowed, after_fault, net, state, fault)

    def test_line(self):
        self.strikes(TWIN, ((0, 1), (0,), (0,)), ("line", 0), ((1,), (0,), (0,)))
        self.strikes(TWIN, ((1,), (0,), (0,)), ("line", 1), ((), (0,), ()))
        self.strikes(TWIN, ((1,), (), ()), ("line", 1), DARK)
        self.refused(TWIN, ((1,), (0,), (0,)), ("line", 0))

    def test_station(self):
        self.strikes(TWIN, ((0, 1), (0,), (0,)), ("station", 0), ((0, 1), (), ()))
        self.strikes(PAIR, ((0,), (0, 1), (1,)), ("station", 0), ((0,), (1,), (1,)))
        self.strikes(PAIR, ((0,), (0, 1), (1,)), ("station", 1), ((0,), (0,), (1,)))
        self.refused(TWIN, ((0, 1), (), ()), ("station", 0))
        self.refused(PAIR, ((0,), (0,), (0,)), ("station", 1))

    def test_the_island_that_results_may_go_dark(self):
        self.strikes(PAIR, ((0,), (0, 1), (0, 1)), ("line", 0), ((), (0, 1), (0, 1)))
        self.strikes(PAIR, ((0,), (0, 1), (0,)), ("line", 0), ((), (0,), (0,)))
        self.strikes(NODE, ((), (0, 1), (0,)), ("station", 1), DARK)
        # a line less may be too much for the others
        net = (2, [(0, 1, 1, 5), (0, 1, 1, 5)], [(0, 0, 9, True), (1, 0, 1, False)], [(1, 9)])
        self.strikes(net, ((0, 1), (0, 1), (0,)), ("line", 1), ((0,), (), ()))

    def test_a_state_that_is_not_sound_settles_as_a_whole(self):
        self.strikes(MESH, ((0, 1, 2), (0, 1), (0, 1)), ("line", 2), ((0, 1), (0,), (0,)))
        self.strikes(MESH, ((0, 1, 2), (0, 1), (0, 1)), ("station", 1), ((0, 1, 2), (), ()))
        self.strikes(PAIR, ((0,), (), (0, 1)), ("line", 0), DARK)
        self.strikes(RING, ((0, 4), (0, 2), (0, 1, 2, 3)), ("line", 0), ((4,), (0, 2), (2,)))

    def test_indexes_that_do_not_exist(self):
        for net in SMALL + [RING, STAR]:
            whole = tuple(tuple(range(len(items))) for items in net[1:])
            for state in (DARK, whole):
                for at, word in enumerate(("line", "station")):
                    many = len(net[at + 1])
                    for k in (many, many + 1, -1, -2, -many, -many - 1, 8, HUGE, -HUGE):
                        if k != 0:
                            self.refused(net, state, (word, k))

    def test_nothing_strikes_in_the_dark(self):
        for net in SMALL + [RING, STAR]:
            self.refused(net, DARK, *faults_to_try(net))

    def test_other_words(self):
        for word in ("", "load", "close", "Line", "stations"):
            self.refused(PAIR, ((0,), (0, 1), (0, 1)), (word, 0), (word, 1))

    def test_all_faults(self):
        told = {True: 0, False: 0}
        for net, state in STATES:
            for fault in faults_to_try(net):
                wanted = wanted_fault(net, state, fault)
                told[wanted is None] += 1
                if wanted is None:
                    self.refused(net, state, fault)
                else:
                    self.strikes(net, state, fault, wanted)
        self.assertGreater(min(told.values()), 1000)


class TaskTest(unittest.TestCase):
    def good(self, net, faults):
        with self.subTest(net=net, faults=faults):
            self.assertIsNone(assert_unchanged(self, check_task, (net, faults)))

    def bad(self, net, faults):
        with self.subTest(net=net, faults=faults):
            assert_unchanged_when_raised(self, BadNet, check_task, (net, faults))

    def test_no_faults(self):
        for net in SMALL + [RING, STAR]:
            self.good(net, [])

    def test_each_fault_alone(self):
        for net in SMALL + [RING, STAR]:
            for word, many in (("line", len(net[1])), ("station", len(net[2]))):
                for k in range(many):
                    self.good(net, [(word, k)])
                for k in (many, many + 1, -1, -2, -many - 1, 8, HUGE, -HUGE):
                    self.bad(net, [(word, k)])
                    if many:
                        self.bad(net, [(word, 0), (word, k)])
                        self.bad(net, [(word, k), (word, 0)])

    def test_the_index_is_held_against_the_list_of_its_word(self):
        # two lines and one station, then one line and two stations
        self.good(TWIN, [("line", 1), ("station", 0)])
        self.bad(TWIN, [("station", 1)])
        self.good(PAIR, [("line", 0), ("station", 1)])
        self.bad(PAIR, [("line", 1)])
        # loads do not matter
        self.bad((1, [], [], [(0, 1)] * 4), [("station", 0)])
        self.bad((1, [], [], [(0, 1)] * 4), [("line", 0)])

    def test_eight_faults_and_more(self):
        lines = [("line", k) for k in range(8)]
        stations = [("station", k) for k in range(4)]
        self.good(RING, lines)
        self.good(RING, lines[:4] + stations)
        self.good(RING, stations[::-1] + lines[4:])
        self.bad(RING, lines + stations[:1])
        self.bad(RING, stations + lines)
        self.bad(RING, lines[:5] + stations)

    def test_a_fault_twice(self):
        self.bad(PAIR, [("line", 0), ("line", 0)])
        self.bad(PAIR, [("station", 1), ("line", 0), ("station", 1)])
        self.bad(RING, [("line", k) for k in range(7)] + [("line", 0)])
        self.good(PAIR, [("station", 0), ("line", 0)])

    def test_any_order(self):
        self.good(PAIR, [("station", 1), ("line", 0), ("station", 0)])

    def test_other_words(self):
        for word in ("", "load", "close", "Line", "stations", "lines", "line "):
            self.bad(PAIR, [(word, 0)])
            self.bad(PAIR, [("line", 0), (word, 0)])

    def test_a_list_that_is_changed_later_is_looked_at_again(self):
        task = (copy.deepcopy(PAIR), [("line", 0)])
        self.assertIsNone(check_task(task))
        task[1].append(("line", 0))
        self.assertRaises(BadNet, check_task, task)
        task[1].pop()
        self.assertIsNone(check_task(task))
        task[0][1].clear()
        self.assertRaises(BadNet, check_task, task)


class PlaceTest(unittest.TestCase):
    def good(self, task, place):
        with self.subTest(task=task, place=place):
            self.assertIsNone(assert_unchanged(self, check_place, task, place))

    def bad(self, task, place):
        with self.subTest(task=task, place=place):
            assert_unchanged_when_raised(self, BadState, check_place, task, place)

    def test_strikes(self):
        for net in (PAIR, RING, (1, [], [], [])):
            for strikes in range(6):
                self.good((net, []), (DARK, strikes))
            for strikes in (-1, -2, 6, 7, HUGE, -HUGE):
                self.bad((net, []), (DARK, strikes))

    def test_more_strikes_than_faults(self):
        self.good((PAIR, [("line", 0)]), (DARK, 5))

    def test_full_states_are_places(self):
        self.good((TWIN, []), (((0,), (0,), (0,)), 0))
        self.good((TWIN, [("line", 0)]), (((0,), (0,), (0,)), 5))
        self.bad((TWIN, [("line", 0)]), (((), (0,), (0,)), 0))

    def test_states_that_are_not_sound(self):
        self.bad((PAIR, []), (((), (), (0,)), 0))
        self.bad((PAIR, []), (((), (1,), ()), 3))
        self.bad((MESH, []), (((0, 1, 2), (0, 1), (0,)), 5))
        self.bad((PAIR, []), (((), (1,), ()), 6))

    def test_all_states(self):
        for net, state in STATES:
            check = self.good if wanted_sound(net, state) else self.bad
            check((net, []), (state, 2))


class AnswersTest(unittest.TestCase):
    def answer(self, task, place, step, wanted):
        with self.subTest(task=task, place=place, step=step):
            found = assert_unchanged(self, answers, task, place, step)
            self.assertEqual(found, wanted)
            self.assertIs(type(found), list)
            self.assertEqual({type(answer) for answer in found}, {tuple})
            assert_plain(self, found)

    def refused(self, task, place, *steps):
        for step in steps:
            with self.subTest(task=task, place=place, step=step):
                assert_unchanged_when_raised(self, NotAllowed, answers, task, place, step)

    def test_no_strikes(self):
        task = (TWIN, [("line", 0), ("line", 1), ("station", 0)])
        self.answer(task, (DARK, 0), ("close", 0), [(((0,), (), ()), 0)])
        self.answer(task, (((0, 1), (), ()), 0), ("begin", 0), [(((0, 1), (0,), ()), 0)])

    def test_no_faults(self):
        for strikes in range(6):
            self.answer((TWIN, []), (DARK, strikes), ("close", 0), [(((0,), (), ()), strikes)])

    def test_a_fault_costs_one_strike(self):
        task = (TWIN, [("line", 0)])
        for strikes in range(1, 6):
            self.answer(task, (DARK, strikes), ("close", 0), [(((0,), (), ()), strikes), (DARK, strikes - 1)])

    def test_faults_strike_in_their_order_and_after_the_step(self):
        state = ((0, 1), (), ())
        after = ((0, 1), (0,), ())
        none = ((0, 1), (), ())
        self.answer((TWIN, [("line", 0), ("line", 1), ("station", 0)]), (state, 2), ("begin", 0),
                    [(after, 2), (((1,), (0,), ()), 1), (((0,), (0,), ()), 1), (none, 1)])
        self.answer((TWIN, [("station", 0), ("line", 1), ("line", 0)]), (state, 1), ("begin", 0),
                    [(after, 1), (none, 0), (((0,), (0,), ()), 0), (((1,), (0,), ()), 0)])

    def test_faults_that_cannot_strike_are_left_out(self):
        task = (TWIN, [("line", 0), ("station", 0), ("line", 1)])
        self.answer(task, (DARK, 1), ("close", 1), [(((1,), (), ()), 1), (DARK, 0)])
        self.answer(task, (((1,), (), ()), 1), ("open", 1), [(DARK, 1)])
        self.answer(task, (((1,), (0,), ()), 1), ("end", 0), [(((1,), (), ()), 1), (DARK, 0)])

    def test_faults_that_are_not_told_do_not_strike(self):
        self.answer((TWIN, [("line", 1)]), (((0,), (), ()), 3), ("begin", 0), [(((0,), (0,), ()), 3)])

    def test_equal_answers_occur_as_often_as_they_are_told(self):
        # whichever of the stations stops, the island goes dark
        task = (NODE, [("station", 1), ("station", 0)])
        one = (1, [], NODE[2], [(0, 5), (0, 1), (0, 1)])
        self.answer((one, task[1]), (((), (0, 1), (1,)), 1), ("feed", 0),
                    [(((), (0, 1), (0, 1)), 1), (DARK, 0), (DARK, 0)])

    def test_a_full_state_has_no_further_answers(self):
        task = (TWIN, [("line", 0), ("line", 1), ("station", 0)])
        for strikes in range(6):
            self.answer(task, (((0, 1), (0,), ()), strikes), ("feed", 0), [(((0, 1), (0,), (0,)), strikes)])

    def test_full_places_are_refused(self):
        task = (TWIN, [("line", 0)])
        for strikes in (0, 1, 5):
            self.refused(task, (((0, 1), (0,), (0,)), strikes), ("open", 0), ("drop", 0), ("close", 0),
                         ("open", 8), ("open", -1))
        self.refused(((1, [], [(0, 0, 1, True)], []), []), (DARK, 0), ("begin", 0))

    def test_steps_that_are_not_allowed(self):
        for strikes in (0, 1, 5):
            self.refused((TWIN, [("line", 0)]), (((0,), (0,), ()), strikes), ("close", 0), ("open", 1),
                         ("begin", 0), ("drop", 0), ("feed", 1), ("feed", -1), ("close", 2), ("close", HUGE),
                         ("open", -1), ("open", -2), ("end", 1), ("end", -1))
            self.refused((TWIN, [("line", 0)]), (DARK, strikes), ("feed", 0), ("end", 0))

    def test_all_answers(self):
        random = Random(22)
        several = 0
        for net, state in STATES:
            if not wanted_sound(net, state) or full(net, state):
                continue
            faults = [("line", k) for k in range(len(net[1]))] + [("station", k) for k in range(len(net[2]))]
            random.shuffle(faults)
            task = (net, faults[:random.choice((0, 2, 8, 8))])
            place = (state, random.randint(0, 5))
            for step in wanted_steps(net, state):
                wanted = wanted_answers(task, place, step)
                several += len(wanted) > 3
                self.answer(task, place, step, wanted)
        self.assertGreater(several, 300)

    def test_every_answer_is_a_place(self):
        task = (RING, [("line", k) for k in range(4)] + [("station", k) for k in range(4)])
        for state in random_states(Random(23), RING, 15):
            place = (settled(RING, state), 5)
            for step in steps_of(RING, place[0]):
                if not full(RING, place[0]):
                    for answer in answers(task, place, step):
                        self.assertIsNone(check_place(task, answer))

    def test_lists_are_new(self):
        task = (TWIN, [("line", 0), ("line", 1), ("station", 0)])
        assert_fresh(self, answers, task, (((0, 1), (), ()), 2), ("begin", 0))
        assert_fresh(self, answers, task, (DARK, 0), ("begin", 0))

    def test_a_list_that_is_changed_later_is_looked_at_again(self):
        task = (copy.deepcopy(TWIN), [("line", 0)])
        place = (((), (0,), ()), 1)
        found = answers(task, place, ("close", 0))
        task[1].clear()
        self.assertEqual(found, [(((0,), (0,), ()), 1), (((), (0,), ()), 0)])
        self.assertEqual(answers(task, place, ("close", 0)), [(((0,), (0,), ()), 1)])


if __name__ == "__main__":
    unittest.main()
