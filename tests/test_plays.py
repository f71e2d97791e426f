"""Promises 2, 21 and 22: decided steps and plays."""

import copy
import unittest
from itertools import product
from random import Random

from relume.errors import OutOfRange, TooLong
from relume.game import decide
from relume.moves import after_step, answers
from relume.plays import decided_step, play
from tests.helper import (ALONE, BEHIND, DARK, DOUBLE, GREAT, GREAT_STATE, LIT, ON, REACHED, TASKS, TWIN,
                          VAST, assert_fresh, assert_plain, assert_unchanged, assert_unchanged_when_raised,
                          full, wanted_decision, wanted_play)

HUGE = 10 ** 30

# The stations 0 and 2 feed the first load together only, so that either fault leads to the dark state.
BOTH = (1, [], [(0, 0, 3, True), (0, 3, 4, True), (0, 0, 2, True)], [(0, 5), (0, 2)])
BOTH_ON = ((), (0, 2), ())

# No station bears the load.
LOST = (1, [], [(0, 0, 4, True)], [(0, 5)])


class DecidedStepTest(unittest.TestCase):
    def step(self, task, place, wanted):
        with self.subTest(task=task, place=place):
            found = assert_unchanged(self, decided_step, task, place)
            self.assertEqual(found, wanted)
            self.assertIs(type(found), type(wanted))

    def test_full_places(self):
        for strikes in range(6):
            self.step((ALONE, [("station", 0)]), (LIT, strikes), None)
            self.step(((1, [], [], []), []), (DARK, strikes), None)

    def test_places_without_a_rank(self):
        for strikes in range(1, 6):
            self.step((BEHIND, [("station", 0)]), (((), (0,), ()), strikes), None)
            self.step((LOST, []), (DARK, strikes), None)
            self.step((LOST, [("station", 0)]), (ON, strikes), None)

    def test_one_station_and_one_load(self):
        for strikes in range(6):
            self.step((ALONE, [("station", 0)]), (DARK, strikes), ("begin", 0))
            self.step((ALONE, [("station", 0)]), (ON, strikes), ("feed", 0))

    def test_the_first_one_that_is_good_enough(self):
        self.step((TWIN, []), (DARK, 0), ("close", 0))
        self.step((TWIN, [("line", 0)]), (DARK, 0), ("close", 0))
        self.step((TWIN, [("line", 0)]), (DARK, 1), ("close", 1))
        self.step((TWIN, [("line", 1)]), (DARK, 1), ("close", 0))

    def test_a_step_that_takes_a_way_round_is_not_decided(self):
        # To close the line 1 is allowed first, but makes the way longer.
        self.step((TWIN, []), (((0,), (), ()), 0), ("begin", 0))
        self.step((TWIN, []), (((0, 1), (0,), ()), 0), ("feed", 0))

    def test_every_word(self):
        # The line 1 bears nothing, so it must be opened before the load is fed.
        net = (2, [(0, 1, 1, 5), (0, 1, 2, 0)], [(0, 1, 5, False), (0, 0, 5, True)], [(1, 4)])
        self.step((net, []), (((0, 1), (1,), ()), 1), ("open", 1))
        # One station runs only with the greater load, so the other load comes last.
        net = (1, [], [(0, 0, 4, True), (0, 3, 3, True)], [(0, 4), (0, 2)])
        self.step((net, [("station", 1)]), (((), (0,), (1,)), 1), ("drop", 1))
        net = (1, [], [(0, 1, 3, True), (0, 0, 1, True), (0, 1, 2, True)], [(0, 1), (0, 3)])
        self.step((net, [("station", 0), ("station", 2)]), (((), (1, 2), (0,)), 1), ("end", 2))

    def test_small_tasks(self):
        told = {None: 0}
        for task, places in TASKS:
            for place in places:
                decision = wanted_decision(task, place)
                steps = {here: step for here, _, step in decision[2]} if decision[0] == "lit" else {}
                wanted = steps.get(place)
                self.step(task, place, wanted)
                word = wanted[0] if wanted else None
                told[word] = told.get(word, 0) + 1
        self.assertGreater(min(told.values()), 10)
        self.assertGreater(len(told), 3)

    def test_greatest_nets(self):
        faults = [("line", 4), ("line", 5), ("station", 3)]
        self.step((GREAT, faults), (GREAT_STATE, 0), ("close", 4))
        self.step((GREAT, faults), (GREAT_STATE, 5), ("close", 4))
        begun = (GREAT_STATE[0], (0, 1, 2, 3), GREAT_STATE[2])
        self.step((GREAT, faults), (begun, 5), ("close", 4))
        faults = [("station", k) for k in (2, 0, 3, 1)] + [("line", k) for k in (1, 3, 0, 2)]
        self.step((DOUBLE, faults), (DARK, 1), ("begin", 1))

    def test_too_many_places(self):
        assert_unchanged_when_raised(self, TooLong, decided_step, (VAST, []), (DARK, 0))
        for many, net, faults, strikes in REACHED:
            task, place = (net, faults), (DARK, strikes)
            if many > 1500:
                assert_unchanged_when_raised(self, TooLong, decided_step, task, place)
                continue
            decision = decide(task, place)
            steps = {here: step for here, _, step in decision[-1]} if decision[0] == "lit" else {}
            self.step(task, place, steps.get(place))


class PlayTest(unittest.TestCase):
    def plays(self, task, place, choices, wanted):
        with self.subTest(task=task, place=place, choices=choices):
            found = assert_unchanged(self, play, task, place, choices)
            self.assertEqual(found, wanted)
            if found is not None:
                self.assertIs(type(found), list)
                self.assertEqual({type(here) for here in found}, {tuple})
                assert_plain(self, found)

    def refused(self, error, task, place, choices):
        with self.subTest(task=task, place=place, choices=choices):
            assert_unchanged_when_raised(self, error, play, task, place, choices)

    def test_full_places(self):
        for strikes in range(6):
            for choices in ([], [0], [1, 2, HUGE]):
                self.plays((ALONE, [("station", 0)]), (LIT, strikes), choices, [(LIT, strikes)])
                self.plays(((1, [], [], []), []), (DARK, strikes), choices, [(DARK, strikes)])

    def test_places_without_a_rank(self):
        for choices in ([], [0], [0, 0, 0], [1, 2, HUGE]):
            self.plays((LOST, []), (DARK, 0), choices, None)
            self.plays((BEHIND, [("station", 0)]), (((), (0,), ()), 1), choices, None)

    def test_without_choices_no_fault_strikes(self):
        for strikes in range(6):
            wanted = [(DARK, strikes), (ON, strikes), (LIT, strikes)]
            self.plays((ALONE, [("station", 0)]), (DARK, strikes), [], wanted)
            self.plays((ALONE, []), (DARK, strikes), [], wanted)

    def test_a_choice_of_a_fault(self):
        task = (ALONE, [("station", 0)])
        struck = [(DARK, 2), (DARK, 1)]
        self.plays(task, (DARK, 2), [1], struck + [(ON, 1), (LIT, 1)])
        self.plays(task, (DARK, 2), [1, 0], struck + [(ON, 1), (LIT, 1)])
        self.plays(task, (DARK, 2), [1, 1], struck + [(DARK, 0), (ON, 0), (LIT, 0)])
        self.plays(task, (DARK, 2), [0, 1], [(DARK, 2), (ON, 2), (LIT, 2)])

    def test_no_strikes_are_left(self):
        task = (ALONE, [("station", 0)])
        self.plays(task, (DARK, 0), [1, 1], [(DARK, 0), (ON, 0), (LIT, 0)])
        wanted = [(DARK, 1), (DARK, 0), (ON, 0), (LIT, 0)]
        self.plays(task, (DARK, 1), [1, 1, 1], wanted)

    def test_the_last_step_is_not_answered(self):
        for choice in range(4):
            self.plays((ALONE, [("station", 0)]), (ON, 3), [choice], [(ON, 3), (LIT, 3)])

    def test_choices_are_taken_modulo_the_number_of_the_answers(self):
        task = (ALONE, [("station", 0)])
        for choice in (0, 2, 4, 1000, HUGE):
            self.plays(task, (DARK, 1), [choice], [(DARK, 1), (ON, 1), (LIT, 1)])
            self.plays(task, (DARK, 1), [choice + 1], [(DARK, 1), (DARK, 0), (ON, 0), (LIT, 0)])

    def test_more_choices_than_steps(self):
        task = (ALONE, [("station", 0)])
        for choices in ([0, 0, 1], [0, 0, 1, 1], [2] * 1000, [0, 1, HUGE, 0, 5]):
            self.plays(task, (DARK, 1), choices, [(DARK, 1), (ON, 1), (LIT, 1)])

    def test_each_step_takes_a_choice_also_if_it_has_one_answer(self):
        # The line is closed first, which no told fault answers.
        task = (TWIN, [("station", 0)])
        closed = ((0,), (), ())
        on = ((0,), (0,), ())
        whole = ((0,), (0,), (0,))
        self.assertEqual(answers(task, (DARK, 1), ("close", 0)), [(closed, 1)])
        unstruck = [(DARK, 1), (closed, 1), (on, 1), (whole, 1)]
        struck = [(DARK, 1), (closed, 1), (closed, 0), (on, 0), (whole, 0)]
        for choices, wanted in (([], unstruck), ([1], unstruck), ([1, 0], unstruck), ([7, 2], unstruck),
                                ([0, 1], struck), ([1, 1], struck), ([HUGE, 3, 5, 7], struck)):
            self.plays(task, (DARK, 1), choices, wanted)

    def test_equal_answers_are_counted_as_often_as_they_occur(self):
        task = (BOTH, [("station", 1), ("station", 2), ("station", 0)])
        fed = ((), (0, 2), (0,))
        told = answers(task, (BOTH_ON, 1), ("feed", 0))
        self.assertEqual(told, [(fed, 1), (DARK, 0), (DARK, 0)])
        self.assertEqual(decided_step(task, (BOTH_ON, 1)), ("feed", 0))
        for choice in range(9):
            found = play(task, (BOTH_ON, 1), [choice])
            self.assertEqual(found[1], (fed, 1) if choice % 3 == 0 else (DARK, 0))
            self.plays(task, (BOTH_ON, 1), [choice], wanted_play(task, (BOTH_ON, 1), [choice]))

    def test_faults_are_chosen_in_the_order_in_which_they_are_told(self):
        for faults in ([("line", 0), ("station", 0)], [("station", 0), ("line", 0)]):
            task = (TWIN, faults)
            place = (((0,), (), ()), 1)
            for choices in product(range(4), repeat=2):
                self.plays(task, place, list(choices), wanted_play(task, place, choices))

    def test_a_choice_below_0_is_refused_before_anything_else(self):
        task = (ALONE, [("station", 0)])
        for choices in ([-1], [-HUGE], [0, -1], [0, 0, -1], [-1, 0, 0], [0, 0, 0, 0, -5], [1, -2, 3]):
            self.refused(OutOfRange, task, (DARK, 1), choices)
            # also where none is used
            self.refused(OutOfRange, task, (LIT, 1), choices)
            self.refused(OutOfRange, (LOST, []), (DARK, 1), choices)
            self.refused(OutOfRange, (VAST, []), (DARK, 1), choices)
            self.refused(OutOfRange, (REACHED[-1][1], REACHED[-1][2]), (DARK, 0), choices)

    def test_too_many_places(self):
        for choices in ([], [0], [1, 2, HUGE]):
            self.refused(TooLong, (VAST, []), (DARK, 1), choices)
            for many, net, faults, strikes in REACHED:
                if many > 1500:
                    self.refused(TooLong, (net, faults), (DARK, strikes), choices)

    def test_just_as_many_places_as_are_allowed(self):
        _, net, faults, strikes = REACHED[0]
        self.plays((net, faults), (DARK, strikes), [0, 1, 2], None)
        _, net, faults, strikes = REACHED[1]
        closed = tuple(sorted(step[1] for _, _, step in decide((net, faults), (DARK, 0))[2]
                              if step[0] == "close"))
        found = play((net, faults), (DARK, strikes), [5, 5, 5, 5])
        self.assertEqual((len(found), found[0]), (4, (DARK, 0)))
        self.assertEqual(found[-1][0][0], closed)
        self.assertTrue(full(net, found[-1][0]))

    def test_no_play_is_longer_than_the_rank_and_one_is_as_long(self):
        # After 3 and 6 strikes the ranks are 13 and 9.
        for _, net, faults, strikes in REACHED[2:4]:
            task, place = (net, faults), (DARK, strikes)
            rank = decide(task, place)[1]
            random = Random(41)
            for _ in range(5):
                choices = [random.randrange(5) for _ in range(random.randint(0, 20))]
                found = play(task, place, choices)
                self.assertLessEqual(len(found) - 1, rank)
                self.assertTrue(full(net, found[-1][0]))
                self.assertFalse([here for here in found[:-1] if full(net, here[0])])
        longest = 0
        for choices in product(range(2), repeat=5):
            longest = max(longest, len(play((ALONE, [("station", 0)]), (DARK, 4), list(choices))) - 1)
        self.assertEqual(longest, decide((ALONE, [("station", 0)]), (DARK, 4))[1])

    def test_small_tasks(self):
        random = Random(42)
        told = {}
        for task, places in TASKS:
            for place in places:
                for _ in range(3):
                    choices = [random.choice((0, 0, 1, 2, 3, 7, HUGE + 1)) for _ in range(random.randint(0, 8))]
                    wanted = wanted_play(task, place, choices)
                    self.plays(task, place, choices, wanted)
                    many = len(wanted) if wanted else 0
                    told[many] = told.get(many, 0) + 1
        self.assertGreater(len([many for many in told if told[many] > 3]), 5)

    def test_the_decided_step_is_made_from_each_place(self):
        random = Random(43)
        for task, places in TASKS:
            for place in places:
                found = play(task, place, [random.randrange(4) for _ in range(6)])
                if found is None:
                    self.assertEqual(decide(task, place)[0], "dark")
                    continue
                for here, following in zip(found, found[1:]):
                    step = decided_step(task, here)
                    self.assertIn(following, answers(task, here, step))
                    if following[1] == here[1]:
                        self.assertEqual(following[0], after_step(task[0], here[0], step))

    def test_lists_are_new(self):
        for choices in ([], [1], [1, 1, 0, 0]):
            assert_fresh(self, play, (ALONE, [("station", 0)]), (DARK, 2), choices)
            assert_fresh(self, play, (ALONE, []), (LIT, 2), choices)

    def test_a_list_that_is_changed_later_is_looked_at_again(self):
        task = (copy.deepcopy(ALONE), [("station", 0)])
        choices = [1]
        found = play(task, (DARK, 1), choices)
        wanted = [(DARK, 1), (DARK, 0), (ON, 0), (LIT, 0)]
        self.assertEqual(found, wanted)
        choices[0] = 0
        self.assertEqual(found, wanted)
        self.assertEqual(play(task, (DARK, 1), choices), [(DARK, 1), (ON, 1), (LIT, 1)])
        choices[0] = 1
        task[1].clear()
        self.assertEqual(play(task, (DARK, 1), choices), [(DARK, 1), (ON, 1), (LIT, 1)])
        task[0][2][0] = (0, 0, 4, True)
        self.assertIsNone(play(task, (DARK, 1), choices))
        self.assertIsNone(decided_step(task, (DARK, 1)))


if __name__ == "__main__":
    unittest.main()
