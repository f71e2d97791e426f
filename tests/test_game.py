"""Promises 2 and 17 to 21: reached places, ranks, guides, traps and decisions."""

import copy
import unittest
from random import Random

from relume.errors import TooLong
from relume.game import decide, is_guide, is_trap
from relume.moves import answers, settled, steps_of
from tests.helper import (ALONE, BEHIND, DARK, DOUBLE, GREAT, GREAT_STATE, LIT, ON, REACHED, TASKS, TWIN,
                          all_states, assert_fresh, assert_plain, assert_unchanged,
                          assert_unchanged_when_raised, full, proves_guide, proves_trap, wanted_choices,
                          wanted_decision, wanted_sound)

# A helper that does not begin by itself.
PAIR = (2, [(0, 1, 1, 5)], [(0, 0, 8, True), (1, 2, 6, False)], [(0, 3), (1, 9)])


class DecideCase(unittest.TestCase):
    def decision(self, task, place):
        """Check the form of the decision, and that it is proved; return it."""
        found = assert_unchanged(self, decide, task, place)
        self.assertIs(type(found), tuple)
        assert_plain(self, found)
        if found[0] == "lit":
            self.assertEqual(len(found), 3)
            self.assertIs(type(found[2]), list)
            self.assertEqual({type(row) for row in found[2]} - {tuple}, set())
            self.assertTrue(proves_guide(task, place, found[2]))
            self.assertIs(is_guide(task, place, found[2]), True)
        else:
            self.assertEqual((found[0], len(found)), ("dark", 2))
            self.assertIs(type(found[1]), list)
            self.assertTrue(proves_trap(task, place, found[1]))
            self.assertIs(is_trap(task, place, found[1]), True)
        return found

    def lit(self, task, place, rank):
        with self.subTest(task=task, place=place):
            found = self.decision(task, place)
            self.assertEqual(found[:2], ("lit", rank))
            return found[2]

    def dark(self, task, place, many):
        with self.subTest(task=task, place=place):
            found = self.decision(task, place)
            self.assertEqual(found[0], "dark")
            self.assertEqual(len(found[1]), many)
            return found[1]


class DecideTest(DecideCase):
    def test_full_places(self):
        for strikes in range(6):
            self.assertEqual(self.lit((ALONE, [("station", 0)]), (LIT, strikes), 0), [])
            self.assertEqual(self.lit(((1, [], [], []), []), (DARK, strikes), 0), [])
            state = ((0,), (0, 1), (0, 1))
            self.assertEqual(self.lit((PAIR, [("line", 0)]), (state, strikes), 0), [])

    def test_one_station_and_one_load(self):
        guide = self.lit((ALONE, []), (DARK, 0), 2)
        self.assertEqual(guide, [((DARK, 0), 2, ("begin", 0)), ((ON, 0), 1, ("feed", 0))])
        guide = self.lit((ALONE, []), (ON, 0), 1)
        self.assertEqual(guide, [((ON, 0), 1, ("feed", 0))])

    def test_strikes_without_told_faults_change_nothing(self):
        for strikes in range(6):
            guide = self.lit((ALONE, []), (DARK, strikes), 2)
            self.assertEqual(guide, [((DARK, strikes), 2, ("begin", 0)), ((ON, strikes), 1, ("feed", 0))])

    def test_each_strike_may_cost_a_step(self):
        for strikes in range(6):
            guide = self.lit((ALONE, [("station", 0)]), (DARK, strikes), 2 + strikes)
            wanted = [((DARK, n), 2 + n, ("begin", 0)) for n in range(strikes + 1)]
            wanted += [((ON, n), 1, ("feed", 0)) for n in range(strikes + 1)]
            self.assertEqual(guide, sorted(wanted))

    def test_a_fault_that_cannot_strike_costs_nothing(self):
        self.lit((TWIN, [("line", 1)]), (DARK, 5), 3)

    def test_the_last_step_is_not_answered(self):
        # The station stops for ever after any step but the last one.
        for strikes in range(6):
            task = (BEHIND, [("station", 0)])
            guide = self.lit(task, (((0,), (0,), ()), strikes), 1)
            self.assertEqual(guide, [((((0,), (0,), ()), strikes), 1, ("feed", 0))])
        self.lit((BEHIND, [("station", 0)]), (((), (0,), ()), 0), 2)

    def test_the_trap_has_all_reached_places_without_a_rank_and_only_them(self):
        # The place with the line closed and the station running is reached too, but has the rank 1.
        for strikes in range(1, 6):
            trap = self.dark((BEHIND, [("station", 0)]), (((), (0,), ()), strikes), 5)
            self.assertEqual(trap, [(DARK, strikes - 1), (DARK, strikes), (((), (0,), ()), strikes),
                                    (((0,), (), ()), strikes - 1), (((0,), (), ()), strikes)])

    def test_no_station(self):
        self.assertEqual(self.dark(((1, [], [], [(0, 1)]), []), (DARK, 3), 1), [(DARK, 3)])
        self.dark((BEHIND, []), (DARK, 0), 2)
        self.dark((BEHIND, [("line", 0), ("station", 0)]), (DARK, 0), 2)
        # the line may open by a strike, so that places with less strikes are reached
        self.dark((BEHIND, [("line", 0)]), (DARK, 5), 12)
        self.dark((BEHIND, [("station", 0)]), (DARK, 5), 2)

    def test_too_small_a_station(self):
        net = (1, [], [(0, 0, 4, True)], [(0, 5)])
        self.assertEqual(self.dark((net, []), (DARK, 1), 2), [(DARK, 1), (ON, 1)])
        self.assertEqual(self.dark((net, [("station", 0)]), (DARK, 1), 4),
                         [(DARK, 0), (DARK, 1), (ON, 0), (ON, 1)])

    def test_too_small_a_line(self):
        net = (2, [(0, 1, 1, 4)], [(0, 0, 5, True)], [(1, 5)])
        self.dark((net, []), (DARK, 0), 4)
        self.lit(((2, [(0, 1, 1, 5)], net[2], net[3]), []), (DARK, 0), 3)
        twice = (2, [(0, 1, 1, 4), (0, 1, 1, 4)], net[2], net[3])
        self.lit((twice, []), (DARK, 0), 4)
        # four of the five shares of the load go over the second line
        shared = (2, [(0, 1, 1, 4), (0, 1, 4, 3)], net[2], net[3])
        self.dark((shared, []), (DARK, 0), 8)

    def test_loads_feed_a_least_output_only_if_they_come_first(self):
        # The station cannot begin without a load, nor a load be fed without a station.
        net = (1, [], [(0, 1, 5, True)], [(0, 5)])
        self.assertEqual(self.dark((net, []), (DARK, 0), 1), [(DARK, 0)])
        helped = (1, [], [(0, 1, 5, True), (0, 0, 1, True)], [(0, 5), (0, 1)])
        self.lit((helped, []), (DARK, 0), 4)

    def test_way_round(self):
        # The loads need 12, the line bears 5, and the helper begins only where there is light.
        guide = self.lit((PAIR, []), (DARK, 0), 5)
        self.assertEqual(guide[0], ((DARK, 0), 5, ("close", 0)))

    def test_the_decided_step_is_the_first_one_that_is_good_enough(self):
        guide = self.lit((TWIN, []), (DARK, 0), 3)
        wanted = [((DARK, 0), 3, ("close", 0)), ((((0,), (), ()), 0), 2, ("begin", 0)),
                  ((((0,), (0,), ()), 0), 1, ("feed", 0))]
        self.assertEqual(guide, sorted(wanted))
        # Both lines first, if one of them may fail for ever without a further step.
        guide = self.lit((TWIN, [("line", 0)]), (DARK, 1), 3)
        self.assertEqual(guide[0], ((DARK, 1), 3, ("close", 1)))

    def test_the_guide_has_only_what_the_decided_steps_lead_to(self):
        guide = self.lit((TWIN, [("line", 0)]), (DARK, 1), 3)
        wanted = [((DARK, 1), 3, ("close", 1)), ((((1,), (), ()), 1), 2, ("begin", 0)),
                  ((((1,), (0,), ()), 1), 1, ("feed", 0))]
        self.assertEqual(guide, sorted(wanted))

    def test_one_strike_may_be_one_too_many(self):
        # A station that must stay on: two lines lead to it, one strike opens one of them only.
        net = (2, [(0, 1, 1, 9), (0, 1, 1, 9)], [(0, 1, 9, False)], [(1, 1), (1, 2)])
        state = ((0, 1), (0,), (0,))
        self.assertEqual(self.decision((net, [("line", 0), ("line", 1)]), (state, 1))[:2], ("lit", 1))
        lines = (3, [(0, 1, 1, 9), (0, 1, 1, 9), (1, 2, 1, 9)], [(0, 1, 9, False)], [(1, 1), (2, 2)])
        state = ((0, 1), (0,), (0,))
        faults = [("line", 0), ("line", 1)]
        self.assertEqual(self.decision((lines, faults), (state, 0))[:2], ("lit", 2))
        self.assertEqual(self.decision((lines, faults), (state, 1))[:2], ("lit", 2))
        self.assertEqual(self.decision((lines, faults), (((0,), (0,), (0,)), 0))[:2], ("lit", 2))
        self.assertEqual(self.decision((lines, faults), (((0,), (0,), (0,)), 1))[:2], ("lit", 3))
        # with one line only, the strike comes as soon as any step is made
        single = (3, [(0, 1, 1, 9), (1, 2, 1, 9)], lines[2], lines[3])
        self.assertEqual(self.decision((single, faults), (((0,), (0,), (0,)), 0))[:2], ("lit", 2))
        self.dark((single, faults[:1]), (((0,), (0,), (0,)), 1), 5)

    def test_small_tasks(self):
        told = {}
        for task, places in TASKS:
            for place in places:
                with self.subTest(task=task, place=place):
                    wanted = wanted_decision(task, place)
                    self.assertEqual(self.decision(task, place), wanted)
                    kind = (wanted[0], min(wanted[1], 4) if wanted[0] == "lit" else 0)
                    told[kind] = told.get(kind, 0) + 1
        self.assertGreater(min(told.get(("lit", rank), 0) for rank in range(5)), 4)
        self.assertGreater(told.get(("dark", 0), 0), 30)

    def test_all_places_of_a_task(self):
        task = (BEHIND, [("station", 0), ("line", 0)])
        for state in all_states(BEHIND):
            if wanted_sound(BEHIND, state):
                for strikes in range(4):
                    wanted = wanted_decision(task, (state, strikes))
                    self.assertEqual(self.decision(task, (state, strikes)), wanted)

    def test_greatest_nets(self):
        faults = [("line", 4), ("line", 5), ("station", 3)]
        for strikes, rank in ((0, 3), (1, 4), (5, 8)):
            self.lit((GREAT, faults), (GREAT_STATE, strikes), rank)
        task, place = (GREAT, faults), (GREAT_STATE, 1)
        self.assertEqual(decide(task, place), wanted_decision(task, place))

    def test_eight_told_faults(self):
        faults = [("line", 4), ("line", 5), ("station", 3), ("line", 6), ("line", 7), ("line", 0),
                  ("line", 1), ("station", 0)]
        self.lit((GREAT, faults), (GREAT_STATE, 0), 3)
        found = decide((GREAT, faults), (GREAT_STATE, 1))
        self.assertEqual((found[0], len(found[1])), ("dark", 1292))
        self.assertIs(is_trap((GREAT, faults), (GREAT_STATE, 1), found[1]), True)
        faults = [("station", k) for k in (2, 0, 3, 1)] + [("line", k) for k in (1, 3, 0, 2)]
        # begin, feed, begin, feed; a strike before the last step costs two of these steps again
        self.lit((DOUBLE, faults), (DARK, 0), 4)
        self.lit((DOUBLE, faults), (DARK, 1), 6)

    def test_lists_are_new(self):
        for task, place in (((ALONE, [("station", 0)]), (DARK, 2)), ((ALONE, []), (LIT, 0)),
                            ((BEHIND, []), (DARK, 0))):
            assert_fresh(self, decide, task, place)

    def test_a_list_that_is_changed_later_is_looked_at_again(self):
        task = (copy.deepcopy(ALONE), [("station", 0)])
        found = decide(task, (DARK, 1))
        before = copy.deepcopy(found)
        self.assertEqual(found[:2], ("lit", 3))
        task[1].clear()
        self.assertEqual(found, before)
        self.assertEqual(decide(task, (DARK, 1))[:2], ("lit", 2))
        task[0][2][0] = (0, 0, 4, True)
        self.assertEqual(decide(task, (DARK, 1)), ("dark", [(DARK, 1), (ON, 1)]))
        self.assertIs(is_guide(task, (DARK, 1), found[2]), False)


class LongTest(DecideCase):
    def test_just_as_many_places_as_are_allowed(self):
        for many, net, faults, strikes in REACHED:
            task, place = (net, faults), (DARK, strikes)
            with self.subTest(many=many, task=task):
                if many > 1500:
                    assert_unchanged_when_raised(self, TooLong, decide, task, place)
                    continue
                found = assert_unchanged(self, decide, task, place)
                if found[0] == "lit":
                    self.assertIs(is_guide(task, place, found[2]), True)
                    self.assertTrue(proves_guide(task, place, found[2]))
                else:
                    self.assertIs(is_trap(task, place, found[1]), True)

    def test_these_are_as_many_places(self):
        # Two of them are counted without the program's own search.
        for many, net, faults, strikes in (REACHED[1], REACHED[-2]):
            self.assertEqual(len(wanted_choices((net, faults), (DARK, strikes))), many)

    def test_many_more_places(self):
        great = (8, [(k, k + 1, 1, 1000) for k in range(7)] + [(0, 7, 1, 1000)],
                 [(k, 0, 1000, True) for k in range(4)], [(k + 4, 1000) for k in range(4)])
        faults = [("line", k) for k in range(4)] + [("station", k) for k in range(4)]
        for strikes in (0, 1, 5):
            assert_unchanged_when_raised(self, TooLong, decide, (great, faults), (DARK, strikes))
            assert_unchanged_when_raised(self, TooLong, decide, (great, []), (DARK, strikes))

    def test_places_with_other_strikes_are_others(self):
        # 8 lines without light: 256 states, and each strike gives them all again
        net = (2, [(0, 1, 1, 1)] * 8, [], [(0, 1)])
        self.assertEqual(len(decide((net, []), (DARK, 5))[1]), 256)
        faults = [("line", k) for k in range(8)]
        self.assertEqual(len(decide((net, faults), (DARK, 4))[1]), 5 * 256)
        assert_unchanged_when_raised(self, TooLong, decide, (net, faults), (DARK, 5))
        self.assertEqual(len(decide((net, faults[:1]), (DARK, 4))[1]), 5 * 256)

    def test_full_places_lead_nowhere(self):
        # From a full place even the greatest net reaches nothing else.
        net = (8, [(k, k + 1, 1, 1000) for k in range(7)] + [(0, 7, 1, 1000)],
               [(k, 0, 1000, True) for k in range(4)], [(k + 4, 1) for k in range(4)])
        whole = (tuple(range(8)), (0, 1, 2, 3), (0, 1, 2, 3))
        faults = [("line", k) for k in range(8)]
        self.assertEqual(decide((net, faults), (whole, 5)), ("lit", 0, []))
        no_loads = net[:3] + ([],)
        self.assertEqual(decide((no_loads, faults), (DARK, 5)), ("lit", 0, []))
        # one load less, and they are too many
        less = (whole[0], whole[1], (0, 1, 2))
        assert_unchanged_when_raised(self, TooLong, decide, (net, faults), (less, 5))

    def test_a_full_place_counts_but_what_lies_behind_it_does_not(self):
        # The load at 0 must be fed by a station that cannot begin again; 7 lines lie behind the others.
        net = (3, [(1, 2, 1, 1)] * 7, [(0, 0, 5, False)], [(0, 5)])
        self.assertEqual(decide((net, []), (((), (0,), ()), 0))[:2], ("lit", 1))
        wanted = 128 * 3
        self.assertEqual(len(wanted_choices((net, []), (((), (0,), ()), 0))), wanted)


class GuideTest(unittest.TestCase):
    task = (ALONE, [("station", 0)])
    guide = [((DARK, 0), 2, ("begin", 0)), ((DARK, 1), 3, ("begin", 0)),
             ((ON, 0), 1, ("feed", 0)), ((ON, 1), 1, ("feed", 0))]

    def take(self, wanted, task, place, guide):
        with self.subTest(task=task, place=place, guide=guide):
            self.assertIs(assert_unchanged(self, is_guide, task, place, guide), wanted)
            self.assertIs(proves_guide(task, place, guide), wanted)

    def test_guide(self):
        for place in ((DARK, 0), (DARK, 1), (ON, 0), (ON, 1)):
            self.take(True, self.task, place, self.guide)

    def test_the_place_must_stand_in_the_list_or_be_full(self):
        self.take(False, self.task, (DARK, 2), self.guide)
        self.take(False, self.task, (ON, 2), self.guide)
        self.take(True, self.task, (LIT, 2), self.guide)
        self.take(True, self.task, (LIT, 0), [])
        self.take(False, self.task, (DARK, 0), [])
        self.take(False, self.task, (ON, 1), [])
        self.take(True, ((1, [], [], []), []), (DARK, 3), [])

    def test_a_place_that_is_missing(self):
        for at in range(4):
            guide = self.guide[:at] + self.guide[at + 1:]
            self.take(False, self.task, (DARK, 1), guide)
        # the first place needs only the two places without a strike
        self.take(True, self.task, (DARK, 0), [self.guide[0], self.guide[2]])
        self.take(False, self.task, (DARK, 0), [self.guide[0], self.guide[3]])
        self.take(False, self.task, (DARK, 0), self.guide[:1])
        self.take(True, self.task, (DARK, 0), self.guide[:1] + self.guide[2:])

    def test_order(self):
        guide = self.guide
        for other in (guide[::-1], [guide[1], guide[0]] + guide[2:], guide[:2] + guide[:1:-1],
                      guide[1:] + guide[:1]):
            self.take(False, self.task, (DARK, 1), other)

    def test_a_place_twice(self):
        for at in range(4):
            guide = self.guide[:at] + [self.guide[at]] + self.guide[at:]
            self.take(False, self.task, (DARK, 1), guide)
        place, rank, step = self.guide[1]
        self.take(False, self.task, (DARK, 1), self.guide[:2] + [(place, rank + 1, step)] + self.guide[2:])

    def test_places_with_greater_strikes_come_behind_all_of_the_same_state(self):
        guide = [((DARK, 0), 2, ("begin", 0)), ((ON, 0), 1, ("feed", 0))]
        self.take(True, (ALONE, []), (DARK, 0), guide)
        self.take(False, (ALONE, []), (DARK, 0), guide[::-1])

    def test_ranks_need_not_be_the_least_ones(self):
        greater = [(place, rank * 10, step) for place, rank, step in self.guide]
        self.take(True, self.task, (DARK, 1), greater)
        self.take(True, (ALONE, []), (DARK, 0), [((DARK, 0), 99, ("begin", 0)), ((ON, 0), 98, ("feed", 0))])

    def test_ranks_must_fall(self):
        for first, second, wanted in ((2, 1, True), (3, 1, True), (3, 2, True), (1, 1, False), (2, 2, False),
                                      (1, 2, False), (10, 10, False)):
            guide = [((DARK, 0), first, ("begin", 0)), ((ON, 0), second, ("feed", 0))]
            self.take(wanted, (ALONE, []), (DARK, 0), guide)
        # also the rank of an answer that comes by a fault
        for rank, wanted in ((4, True), (3, True), (2, False), (1, False)):
            guide = self.guide[:1] + [((DARK, 1), rank, ("begin", 0))] + self.guide[2:]
            self.take(wanted, self.task, (DARK, 1), guide)

    def test_ranks_are_at_least_one(self):
        for rank in (0, -1, -10 ** 9):
            self.take(False, (ALONE, []), (ON, 0), [((ON, 0), rank, ("feed", 0))])
            guide = [((DARK, 0), 2, ("begin", 0)), ((ON, 0), rank, ("feed", 0))]
            self.take(False, (ALONE, []), (DARK, 0), guide)

    def test_full_places_do_not_stand_there(self):
        row = ((LIT, 0), 1, ("drop", 0))
        self.take(False, (ALONE, []), (LIT, 0), [row])
        self.take(False, (ALONE, []), (ON, 0), [((ON, 0), 1, ("feed", 0)), row])
        self.take(False, (ALONE, []), (ON, 0), [((ON, 0), 1, ("feed", 0)), ((LIT, 1), 1, ("drop", 0))])
        # also if their steps lead to full places or to smaller ranks
        both = ((0, 1), (0,), (0,))
        self.take(False, (TWIN, []), (both, 0), [((both, 0), 1, ("open", 0))])
        self.take(False, (ALONE, []), (ON, 0), [((ON, 0), 1, ("feed", 0)), ((LIT, 0), 2, ("drop", 0))])
        self.take(False, (ALONE, []), (LIT, 0), [((ON, 0), 1, ("feed", 0)), ((LIT, 0), 2, ("drop", 0))])

    def test_steps_that_are_not_allowed(self):
        for step in (("begin", 1), ("begin", -1), ("feed", 0), ("end", 0), ("drop", 0), ("close", 0),
                     ("open", 0), ("begin", 10 ** 30), ("feed", -1), ("open", -1)):
            self.take(False, (ALONE, []), (DARK, 0), [((DARK, 0), 2, step), ((ON, 0), 1, ("feed", 0))])
        for step in (("feed", 1), ("feed", -1), ("begin", 0), ("drop", 0), ("end", 0)):
            self.take(False, (ALONE, []), (DARK, 0), [((DARK, 0), 2, ("begin", 0)), ((ON, 0), 1, step)])

    def test_steps_that_lead_back(self):
        guide = [((DARK, 0), 2, ("begin", 0)), ((ON, 0), 3, ("end", 0))]
        self.take(False, (ALONE, []), (ON, 0), guide)
        self.take(False, (ALONE, []), (DARK, 0), guide)

    def test_longer_ways_are_ways_too(self):
        both = ((0, 1), (), ())
        guide = [((DARK, 0), 9, ("close", 1)), ((((0, 1), (), ()), 0), 6, ("begin", 0)),
                 ((((0, 1), (0,), ()), 0), 1, ("feed", 0)), ((((1,), (), ()), 0), 7, ("close", 0))]
        guide = sorted(guide)
        for place in ((DARK, 0), (both, 0), (((1,), (), ()), 0)):
            self.take(True, (TWIN, []), place, guide)

    def test_more_places_than_are_needed(self):
        guide = sorted(self.guide + [((DARK, 2), 4, ("begin", 0)), ((ON, 2), 1, ("feed", 0))])
        for place in ((DARK, 0), (DARK, 1), (DARK, 2), (ON, 2)):
            self.take(True, self.task, place, guide)
        # each of them must be right
        wrong = sorted(self.guide + [((DARK, 2), 3, ("begin", 0)), ((ON, 2), 1, ("feed", 0))])
        self.take(False, self.task, (DARK, 0), wrong)
        wrong = sorted(self.guide + [((DARK, 2), 4, ("begin", 0))])
        self.take(False, self.task, (DARK, 0), wrong)

    def test_a_guide_without_the_faults_is_none_with_them(self):
        guide = [((DARK, 1), 2, ("begin", 0)), ((ON, 1), 1, ("feed", 0))]
        self.take(True, (ALONE, []), (DARK, 1), guide)
        self.take(False, (ALONE, [("station", 0)]), (DARK, 1), guide)

    def test_changed_guides_are_judged_by_the_words_of_the_document(self):
        random = Random(32)
        told = {True: 0, False: 0}
        for task, places in TASKS:
            steps = [(word, k) for word in ("close", "open", "begin", "end", "feed", "drop") for k in (-1, 0, 1)]
            for place in places:
                found = decide(task, place)
                if found[0] == "dark" or not found[2]:
                    continue
                for _ in range(4):
                    guide = found[2][:]
                    at = random.randrange(len(guide))
                    here, rank, step = guide[at]
                    guide[at] = random.choice(((here, rank + random.choice((-1, 1)), step),
                                               (here, rank, random.choice(steps)),
                                               (here, rank + 1, random.choice(steps)),
                                               ((here[0], here[1] + 1), rank, step)))
                    wanted = proves_guide(task, place, guide)
                    told[wanted] += 1
                    self.take(wanted, task, place, guide)
        self.assertGreater(min(told.values()), 15)


class TrapTest(unittest.TestCase):
    # The station stops for ever if it is struck before the last step.
    task = (BEHIND, [("station", 0)])
    place = (((), (0,), ()), 1)
    trap = [(DARK, 0), (DARK, 1), (((), (0,), ()), 1), (((0,), (), ()), 0), (((0,), (), ()), 1)]

    def take(self, wanted, task, place, trap):
        with self.subTest(task=task, place=place, trap=trap):
            self.assertIs(assert_unchanged(self, is_trap, task, place, trap), wanted)
            self.assertIs(proves_trap(task, place, trap), wanted)

    def test_trap(self):
        for place in self.trap:
            self.take(True, self.task, place, self.trap)

    def test_the_place_must_stand_in_the_list(self):
        for place in ((((), (0,), ()), 0), (((0,), (0,), ()), 1), (DARK, 2), (((0,), (), ()), 2)):
            self.take(False, self.task, place, self.trap)
        self.take(False, self.task, self.place, [])

    def test_a_place_that_is_missing(self):
        for at in range(5):
            trap = self.trap[:at] + self.trap[at + 1:]
            for place in self.trap:
                # Only the first place is one that the others do not need.
                self.take(at == 2 and place != self.place, self.task, place, trap)

    def test_a_smaller_trap_is_one_too(self):
        small = [(DARK, 0), (((0,), (), ()), 0)]
        self.take(True, self.task, (DARK, 0), small)
        self.take(True, self.task, (((0,), (), ()), 0), small)
        self.take(False, self.task, self.place, small)
        self.take(False, self.task, (DARK, 0), small[:1])

    def test_order(self):
        self.take(False, self.task, self.place, self.trap[::-1])
        for at in range(4):
            trap = self.trap[:]
            trap[at], trap[at + 1] = trap[at + 1], trap[at]
            self.take(False, self.task, self.place, trap)

    def test_a_place_twice(self):
        for at in range(5):
            self.take(False, self.task, self.place, self.trap[:at] + [self.trap[at]] + self.trap[at:])

    def test_full_places_do_not_stand_there(self):
        state = ((0,), (0,), (0,))
        self.take(False, self.task, (state, 0), [(state, 0)])
        self.take(False, self.task, self.place, sorted(self.trap + [(state, 0)]))
        self.take(False, self.task, self.place, sorted(self.trap + [(state, 1)]))
        # also if their steps do not lead out of the list
        for net in (ALONE, BEHIND, TWIN):
            places = sorted((state, 0) for state in all_states(net) if wanted_sound(net, state))
            for place in places:
                self.take(False, (net, []), place, places)
        empty = ((1, [], [], []), [])
        self.take(False, empty, (DARK, 0), [(DARK, 0)])
        self.take(False, empty, (DARK, 0), [])

    def test_a_place_from_which_no_step_leads(self):
        for net in ((1, [], [], [(0, 1)]), (1, [], [(0, 1, 5, True)], [(0, 5)])):
            for strikes in range(6):
                self.take(True, (net, []), (DARK, strikes), [(DARK, strikes)])
        self.take(True, ((1, [], [], [(0, 1)]), []), (DARK, 1), [(DARK, 0), (DARK, 1), (DARK, 2)])

    def test_a_place_from_which_a_step_leads_out(self):
        self.take(False, (ALONE, []), (DARK, 0), [(DARK, 0)])
        self.take(False, (ALONE, []), (DARK, 0), [(DARK, 0), (ON, 0)])
        # with the fault, the first step leads back, with a strike less
        self.take(False, (ALONE, [("station", 0)]), (DARK, 1), [(DARK, 0), (DARK, 1)])
        lost = (1, [], [(0, 0, 4, True)], [(0, 5)])
        self.take(True, (lost, []), (DARK, 0), [(DARK, 0), (ON, 0)])
        self.take(False, (lost, []), (DARK, 0), [(DARK, 0)])
        self.take(False, (lost, []), (ON, 0), [(ON, 0)])
        # each step must have an answer in the list, not only some step
        self.take(False, (TWIN, []), (DARK, 0), [(DARK, 0), (((0,), (), ()), 0)])

    def test_one_answer_is_enough_whether_it_comes_by_a_fault_or_not(self):
        lost = (1, [], [(0, 0, 4, True)], [(0, 5)])
        task = (lost, [("station", 0)])
        self.take(True, task, (DARK, 1), [(DARK, 0), (DARK, 1), (ON, 0)])
        self.take(True, task, (DARK, 1), [(DARK, 1), (ON, 1)])
        self.take(False, task, (DARK, 1), [(DARK, 1), (ON, 0)])

    def test_all_decided_traps_and_parts_of_them(self):
        random = Random(33)
        told = {True: 0, False: 0}
        for task, places in TASKS:
            for place in places:
                found = decide(task, place)
                if found[0] == "lit" or len(found[1]) > 60:
                    continue
                trap = found[1]
                at = random.randrange(len(trap))
                more = sorted(set(trap + [random.choice(places)]))
                turned = trap[at:] + trap[:at]
                for part in (trap[:at] + trap[at + 1:], more, turned, [place],
                             [here for here in trap if here[1] == place[1]],
                             [here for here in trap if here[1] == 0]):
                    wanted = proves_trap(task, place, part)
                    told[wanted] += 1
                    self.take(wanted, task, place, part)
        self.assertGreater(min(told.values()), 40)

    def test_never_both(self):
        for task, places in TASKS:
            for place in places:
                found = decide(task, place)
                if found[0] == "lit":
                    self.assertIs(is_trap(task, place, [row[0] for row in found[2]]), False)
                else:
                    rows = [(here, 1, step) for here in found[1] for step in steps_of(task[0], here[0])[:1]]
                    self.assertIs(is_guide(task, place, rows), False)

    def test_a_list_that_is_changed_later_is_looked_at_again(self):
        task = (copy.deepcopy(BEHIND), [("station", 0)])
        trap = copy.deepcopy(self.trap)
        self.assertIs(is_trap(task, self.place, trap), True)
        last = trap.pop()
        self.assertIs(is_trap(task, self.place, trap), False)
        trap.append(last)
        task[1].clear()
        self.assertIs(is_trap(task, self.place, trap), False)


class WayTest(unittest.TestCase):
    def test_whoever_makes_the_steps_of_the_guide_lights_the_net(self):
        # Promise 19: within as many steps as the rank, whatever the faults do.
        random = Random(34)
        longest = 0
        for task, places in TASKS:
            for place in places:
                found = decide(task, place)
                if found[0] == "dark":
                    continue
                guide = {here: (rank, step) for here, rank, step in found[2]}
                for _ in range(5):
                    here, many = place, 0
                    while not full(task[0], here[0]):
                        here = random.choice(answers(task, here, guide[here][1]))
                        many += 1
                    self.assertLessEqual(many, found[1])
                    longest = max(longest, many)
        self.assertGreater(longest, 4)

    def test_the_faults_keep_the_switcher_in_the_trap(self):
        # Promise 20: each step from a place of the trap has an answer there.
        random = Random(35)
        for task, places in TASKS:
            for place in places:
                found = decide(task, place)
                if found[0] == "lit":
                    continue
                listed = set(found[1])
                here = place
                for _ in range(10):
                    steps = steps_of(task[0], here[0])
                    if not steps:
                        break
                    told = answers(task, here, random.choice(steps))
                    kept = [answer for answer in told if answer in listed]
                    self.assertTrue(kept)
                    here = random.choice(kept)

    def test_settled_places_are_decided(self):
        net = (2, [(0, 1, 1, 4)], [(0, 0, 5, True), (1, 1, 2, False)], [(1, 5), (0, 1)])
        task = (net, [("line", 0), ("station", 1)])
        for state in all_states(net):
            place = (settled(net, state), 2)
            self.assertEqual(decide(task, place), wanted_decision(task, place))


if __name__ == "__main__":
    unittest.main()
