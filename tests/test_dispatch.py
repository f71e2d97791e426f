"""Promises 2, 6, 7, 8, 11 and 12: conditions, dispatches and barriers of an island."""

import copy
import unittest
from fractions import Fraction
from itertools import product
from math import gcd
from random import Random

from relume.dispatch import conditions_of, is_barrier, is_dispatch, is_feasible, run_island
from tests.helper import (ALL, PARTED, PARTED_STATE, RING, TREE, WHOLE, all_parts, all_states,
                          assert_fresh, assert_plain, assert_unchanged, chain, condition_values, pair,
                          pairs, proves_dispatch, proves_none, random_islands, random_part,
                          wanted_conditions, wanted_islands)


class ConditionsTest(unittest.TestCase):
    def conditions(self, net, state, island, wanted):
        with self.subTest(net=net, state=state, island=island):
            self.assertEqual(assert_unchanged(self, conditions_of, net, state, island), wanted)

    def test_one_node(self):
        net = (1, [], [(0, 2, 9, True), (0, 0, 0, False)], [(0, 4), (0, 1000)])
        self.conditions(net, ((), (), ()), [0], [[0], [0]])
        self.conditions(net, ((), (), (0,)), [0], [[-4], [4]])
        self.conditions(net, ((), (), (0, 1)), [0], [[-1004], [1004]])
        self.conditions(net, ((), (0,), ()), [0], [[-2, 1], [9, -1], [0, 1], [0, -1]])
        self.conditions(net, ((), (0, 1), (1,)), [0],
                        [[-2, 1, 0], [9, -1, 0], [0, 0, 1], [0, 0, -1], [-1000, 1, 1], [1000, -1, -1]])

    def test_a_line(self):
        net = chain(7, 5, 1, 6, 4)
        self.conditions(net, ((0,), (), ()), [0, 1],
                        [[5, 7], [5, -7], [0, 7], [0, -7], [0, -7], [0, 7]])
        self.conditions(net, ALL, [0, 1],
                        [[-1, 1, 0], [6, -1, 0], [5, 0, 7], [5, 0, -7],
                         [0, 1, 7], [0, -1, -7], [-4, 0, -7], [4, 0, 7]])
        self.conditions(net, ((), (0,), (0,)), [0], [[-1, 1], [6, -1], [0, 1], [0, -1]])
        self.conditions(net, ((), (0,), (0,)), [1], [[-4], [4]])

    def test_several_lines_between_the_same_nodes(self):
        net = (2, [(0, 1, 2, 3), (0, 1, 5, 1000)], [], [(0, 8)])
        self.conditions(net, ((0, 1), (), (0,)), [0, 1],
                        [[3, 2], [3, -2], [1000, 5], [1000, -5], [-8, 7], [8, -7], [0, -7], [0, 7]])
        self.conditions(net, ((1,), (), (0,)), [0, 1],
                        [[1000, 5], [1000, -5], [-8, 5], [8, -5], [0, -5], [0, 5]])

    def test_what_is_in_another_island_or_does_not_run_is_left_out(self):
        # stations 0 and 2, lines 0 and 2, loads 0 and 3; the unknowns end with the potentials of 2, 5
        self.conditions(PARTED, PARTED_STATE, [0, 2, 5], [
            [-1, 1, 0, 0, 0], [8, -1, 0, 0, 0], [-2, 0, 1, 0, 0], [2, 0, -1, 0, 0],
            [10, 0, 0, 3, 0], [10, 0, 0, -3, 0], [0, 0, 0, -2, 2], [0, 0, 0, 2, -2],
            [-1, 0, 1, 3, 0], [1, 0, -1, -3, 0],
            [0, 1, 0, -5, 2], [0, -1, 0, 5, -2],
            [-4, 0, 0, 2, -2], [4, 0, 0, -2, 2]])
        self.conditions(PARTED, PARTED_STATE, [1, 4], [
            [0, 1, 0], [30, -1, 0], [20, 0, 5], [20, 0, -5], [1000, 0, 1], [1000, 0, -1],
            [-6, 0, 6], [6, 0, -6], [0, 1, -6], [0, -1, 6]])
        self.conditions(PARTED, PARTED_STATE, [3], [[0], [0]])

    def test_a_triangle(self):
        net = (3, [(0, 1, 1, 4), (0, 2, 2, 5), (1, 2, 3, 6)], [(1, 0, 9, True)], [(2, 7), (0, 1)])
        self.conditions(net, ((0, 1, 2), (0,), (0, 1)), [0, 1, 2], [
            [0, 1, 0, 0], [9, -1, 0, 0],
            [4, 0, 1, 0], [4, 0, -1, 0], [5, 0, 0, 2], [5, 0, 0, -2], [6, 0, -3, 3], [6, 0, 3, -3],
            [-1, 0, 1, 2], [1, 0, -1, -2], [0, 1, -4, 3], [0, -1, 4, -3], [-7, 0, 3, -5], [7, 0, -3, 5]])

    def test_the_values_are_those_of_the_document(self):
        for net, state, island in random_islands(11, 400):
            self.conditions(net, state, island, wanted_conditions(net, state, island))
        self.conditions(RING, WHOLE, list(range(8)), wanted_conditions(RING, WHOLE, list(range(8))))
        self.conditions(TREE, WHOLE, list(range(8)), wanted_conditions(TREE, WHOLE, list(range(8))))

    def test_all_states_of_a_net(self):
        net = (3, [(0, 1, 2, 3), (1, 2, 5, 7), (0, 2, 11, 13)], [(0, 1, 2, True), (2, 3, 4, False)],
               [(0, 17), (1, 19)])
        for state in all_states(net):
            for island in wanted_islands(net, state[0]):
                wanted = wanted_conditions(net, state, island)
                self.assertEqual(conditions_of(net, state, island), wanted)

    def test_number_and_length(self):
        found = conditions_of(RING, WHOLE, list(range(8)))
        self.assertEqual(len(found), 40)
        self.assertEqual({len(row) for row in found}, {12})
        assert_plain(self, found)

    def test_lists_are_new(self):
        assert_fresh(self, conditions_of, PARTED, PARTED_STATE, [0, 2, 5])
        assert_fresh(self, conditions_of, PARTED, PARTED_STATE, [3])
        assert_fresh(self, conditions_of, RING, WHOLE, list(range(8)))


class DispatchTest(unittest.TestCase):
    def take(self, wanted, net, state, island, outputs, potentials):
        with self.subTest(net=net, state=state, island=island, outputs=outputs, potentials=potentials):
            answer = assert_unchanged(self, is_dispatch, net, state, island, outputs, potentials)
            self.assertIs(answer, wanted)

    def line(self, wanted, net, output, potential):
        """The net is a chain; the first potential is 0."""
        self.take(wanted, net, ALL, [0, 1], pairs(output), pairs(0, potential))

    def test_chain(self):
        net = chain(2, 10, 0, 9, 5)
        self.line(True, net, 5, Fraction(-5, 2))
        self.line(False, net, 5, Fraction(5, 2))
        self.line(False, net, 5, -2)
        self.line(False, net, 5, 0)
        self.line(False, net, 4, Fraction(-5, 2))
        self.line(False, net, 6, Fraction(-5, 2))
        self.line(False, net, 4, -2)
        self.line(False, net, 6, -3)

    def test_bounds_of_the_output(self):
        for least, greatest, wanted in ((5, 5, True), (0, 5, True), (5, 1000, True), (0, 1000, True),
                                        (6, 6, False), (0, 4, False), (6, 1000, False), (0, 0, False)):
            self.line(wanted, chain(1, 1000, least, greatest, 5), 5, -5)

    def test_bounds_of_the_output_are_not_only_those_of_whole_numbers(self):
        net = (1, [], [(0, 1, 3, True), (0, 2, 9, True)], [(0, 5)])
        for first, wanted in ((1, True), (3, True), (Fraction(5, 2), True), (Fraction(9, 10), False),
                              (Fraction(29, 9), False), (0, False), (-1, False), (4, False)):
            self.take(wanted, net, ((), (0, 1), (0,)), [0], pairs(first, 5 - Fraction(first)), pairs(0))

    def test_limit_of_the_flow(self):
        for limit, wanted in ((5, True), (6, True), (1000, True), (4, False), (0, False), (1, False)):
            self.line(wanted, chain(1, limit, 0, 9, 5), 5, -5)
            self.line(wanted, chain(3, limit, 0, 9, 5), 5, Fraction(-5, 3))
            turned = (2, [(0, 1, 3, limit)], [(1, 0, 9, True)], [(0, 5)])
            self.line(wanted, turned, 5, Fraction(5, 3))

    def test_limit_of_zero(self):
        net = (2, [(0, 1, 4, 0)], [(0, 0, 9, True), (1, 0, 9, True)], [(0, 2), (1, 3)])
        self.take(True, net, ((0,), (0, 1), (0, 1)), [0, 1], pairs(2, 3), pairs(0, 0))
        small = Fraction(1, 10 ** 9)
        self.take(False, net, ((0,), (0, 1), (0, 1)), [0, 1], pairs(2 + 4 * small, 3 - 4 * small),
                  pairs(0, -small))

    def test_several_lines_share_the_flow(self):
        net = (2, [(0, 1, 1, 2), (0, 1, 4, 8)], [(0, 0, 50, True)], [(1, 10)])
        state = ((0, 1), (0,), (0,))
        self.take(True, net, state, [0, 1], pairs(10), pairs(0, -2))
        tighter = (2, [(0, 1, 1, 1), (0, 1, 4, 9)], net[2], net[3])
        self.take(False, tighter, state, [0, 1], pairs(10), pairs(0, -2))
        self.take(False, net, ((0,), (0,), (0,)), [0, 1], pairs(10), pairs(0, -10))
        self.take(False, net, ((1,), (0,), (0,)), [0, 1], pairs(10), pairs(0, Fraction(-10, 4)))

    def test_first_potential(self):
        net = chain(2, 10, 0, 9, 4)
        self.take(True, net, ALL, [0, 1], pairs(4), pairs(0, -2))
        self.take(False, net, ALL, [0, 1], pairs(4), pairs(1, -1))
        self.take(False, net, ALL, [0, 1], pairs(4), pairs(Fraction(1, 2), Fraction(-3, 2)))
        self.take(False, net, ALL, [0, 1], pairs(4), pairs(2, 0))
        self.take(False, (1, [], [], []), ((), (), ()), [0], [], pairs(1))

    def test_lists_of_other_lengths(self):
        net = chain(2, 10, 0, 9, 4)
        for outputs in ([], pairs(4, 0), pairs(0, 4), pairs(4, 4, 4)):
            self.take(False, net, ALL, [0, 1], outputs, pairs(0, -2))
        for potentials in ([], pairs(0), pairs(-2), pairs(0, -2, 0), pairs(0, 0, -2), pairs(0, -2, -2)):
            self.take(False, net, ALL, [0, 1], pairs(4), potentials)
        self.take(False, net, ALL, [0, 1], [], [])
        self.take(False, net, ALL, [0, 1], pairs(4, 0), pairs(-2))
        self.take(False, net, ALL, [0, 1], [], pairs(4, 0, -2))

    def test_dark_islands(self):
        net = (2, [(0, 1, 3, 9)], [(0, 0, 5, True)], [(1, 2)])
        self.take(True, net, ((), (), ()), [0], [], pairs(0))
        self.take(True, net, ((), (), ()), [1], [], pairs(0))
        self.take(False, net, ((), (), (0,)), [1], [], pairs(0))
        self.take(True, net, ((), (), (0,)), [0], [], pairs(0))
        self.take(True, net, ((0,), (), ()), [0, 1], [], pairs(0, 0))
        self.take(False, net, ((0,), (), ()), [0, 1], [], pairs(0, 1))
        self.take(False, net, ((0,), (), (0,)), [0, 1], [], pairs(0, 0))
        self.take(False, net, ((), (), ()), [0], pairs(0), pairs(0))

    def test_lit_island_without_loads(self):
        net = (2, [(0, 1, 3, 9)], [(0, 0, 5, True), (1, 1, 5, True)], [(1, 2)])
        self.take(True, net, ((0,), (0,), ()), [0, 1], pairs(0), pairs(0, 0))
        self.take(False, net, ((0,), (0,), ()), [0, 1], pairs(1), pairs(0, 0))
        self.take(False, net, ((0,), (1,), ()), [0, 1], pairs(0), pairs(0, 0))
        self.take(False, net, ((0,), (1,), ()), [0, 1], pairs(1), pairs(0, 0))

    def test_one_node_that_is_not_balanced(self):
        net = (3, [(0, 1, 1, 9), (1, 2, 1, 9)], [(0, 0, 9, True)], [(2, 3)])
        state = ((0, 1), (0,), (0,))
        self.take(True, net, state, [0, 1, 2], pairs(3), pairs(0, -3, -6))
        for potentials in (pairs(0, -3, -5), pairs(0, -2, -5), pairs(0, -3, -7), pairs(0, -4, -7)):
            self.take(False, net, state, [0, 1, 2], pairs(3), potentials)
        self.take(False, net, state, [0, 1, 2], pairs(2), pairs(0, -3, -6))
        self.take(False, net, state, [0, 1, 2], pairs(4), pairs(0, -3, -6))

    def test_what_is_in_another_island_or_does_not_run_is_left_out(self):
        self.take(True, PARTED, PARTED_STATE, [1, 4], pairs(6), pairs(0, 1))
        self.take(False, PARTED, PARTED_STATE, [1, 4], pairs(6, 0), pairs(0, 1))
        self.take(True, PARTED, PARTED_STATE, [3], [], pairs(0))
        # the load at 5 is fed over a line with limit 0
        potentials = pairs(0, Fraction(1, 3), Fraction(-5, 3))
        self.take(False, PARTED, PARTED_STATE, [0, 2, 5], pairs(3, 2), potentials)
        without = (PARTED_STATE[0], PARTED_STATE[1], (1, 3))
        self.take(False, PARTED, without, [0, 2, 5], pairs(-1, 2), pairs(0, Fraction(-1, 3), Fraction(-1, 3)))
        more = (PARTED_STATE[0], (0, 1), (1, 3))
        third = Fraction(1, 3)
        self.take(True, PARTED, more, [0, 2, 5], pairs(1), pairs(0, third, third))

    def test_a_pair_that_is_not_in_lowest_terms_is_no_fraction(self):
        net = chain(2, 10, 0, 9, 4)
        self.take(True, net, ALL, [0, 1], [(4, 1)], [(0, 1), (-2, 1)])
        self.take(False, net, ALL, [0, 1], [(8, 2)], [(0, 1), (-2, 1)])
        self.take(False, net, ALL, [0, 1], [(4, 1)], [(0, 1), (-4, 2)])
        self.take(False, net, ALL, [0, 1], [(4, 1)], [(0, 2), (-2, 1)])
        self.take(False, net, ALL, [0, 1], [(-4, -1)], [(0, 1), (-2, 1)])
        self.take(False, net, ALL, [0, 1], [(4, 1)], [(0, 1), (2, -1)])
        self.take(False, net, ALL, [0, 1], [(1, 0)], [(0, 1), (-2, 1)])
        self.take(False, net, ALL, [0, 1], [(-1, 0)], [(0, 1), (-2, 1)])
        self.take(False, net, ALL, [0, 1], [(4, 1)], [(0, 1), (-1, 0)])
        self.take(False, net, ALL, [0, 1], [(4, 1)], [(0, 0), (-2, 1)])

    def test_great_fractions(self):
        net = (1, [], [(0, 0, 9, True), (0, 0, 9, True)], [(0, 9)])
        state = ((), (0, 1), (0,))
        third = Fraction(10 ** 40, 3 * 10 ** 40 + 1)
        self.take(True, net, state, [0], pairs(third, 9 - third), pairs(0))
        self.take(False, net, state, [0], pairs(third, 9 - third + Fraction(1, 10 ** 60)), pairs(0))
        self.take(False, net, state, [0], pairs(-third, 9 + third), pairs(0))

    def test_changed_dispatches_are_judged_by_the_words_of_the_document(self):
        random = Random(12)
        told = {True: 0, False: 0}
        for net, state, island in random_islands(13, 400):
            answer = run_island(net, state, island)
            if answer[0] == "no":
                continue
            for _ in range(6):
                outputs = [Fraction(*found) for found in answer[1]]
                potentials = [Fraction(*found) for found in answer[2]]
                if len(outputs) > 1 and random.random() < 0.8:
                    # an exchange between two stations; at one node it may be a dispatch again
                    first, second = random.sample(range(len(outputs)), 2)
                    part = random.choice((1, Fraction(1, 7), Fraction(5, 2)))
                    outputs[first] += part
                    outputs[second] -= part
                if random.random() < 0.3:
                    chosen = random.choice((outputs or potentials, potentials))
                    chosen[random.randrange(len(chosen))] += random.choice((1, -1, Fraction(1, 3)))
                outputs, potentials = pairs(*outputs), pairs(*potentials)
                wanted = proves_dispatch(net, state, island, outputs, potentials)
                told[wanted] += 1
                self.take(wanted, net, state, island, outputs, potentials)
        self.assertGreater(min(told.values()), 100)

    def test_at_most_one_list_of_potentials(self):
        # Promise 12: no other potentials go with the outputs of a dispatch.
        shifts = pairs(1, -1, Fraction(1, 2), Fraction(-1, 1000))
        for net, state, island in random_islands(14, 250):
            answer = run_island(net, state, island)
            if answer[0] == "no":
                continue
            for chosen in all_parts(len(island))[1:]:
                for shift in shifts[:2] if len(island) > 4 else shifts:
                    potentials = [pair(Fraction(*old) + (Fraction(*shift) if at in chosen else 0))
                                  for at, old in enumerate(answer[2])]
                    self.assertIs(is_dispatch(net, state, island, answer[1], potentials), False)


class BarrierTest(unittest.TestCase):
    def take(self, wanted, net, state, island, integers):
        with self.subTest(net=net, state=state, island=island, integers=integers):
            answer = assert_unchanged(self, is_barrier, net, state, island, integers)
            self.assertIs(answer, wanted)

    def test_too_small_a_station(self):
        # conditions: output - 0, 3 - output, excess, minus excess; load 5
        net = (1, [], [(0, 0, 3, True)], [(0, 5)])
        state = ((), (0,), (0,))
        self.take(True, net, state, [0], [0, 1, 1, 0])
        self.take(True, net, state, [0], [0, 7, 7, 0])
        self.take(True, net, state, [0], [0, 1, 2, 1])
        self.take(True, net, state, [0], [1, 3, 2, 0])
        self.take(False, net, state, [0], [1, 2, 1, 0])
        self.take(False, net, state, [0], [3, 4, 1, 0])
        self.take(False, net, state, [0], [0, 0, 0, 0])
        self.take(False, net, state, [0], [0, 1, 0, 0])
        self.take(False, net, state, [0], [0, 1, 2, 0])
        self.take(False, net, state, [0], [0, 2, 1, 0])
        self.take(False, net, state, [0], [1, 1, 0, 0])
        self.take(False, net, state, [0], [0, 1, 0, -1])
        self.take(False, net, state, [0], [-1, 0, 1, 0])
        self.take(False, net, state, [0], [0, -1, -1, 0])

    def test_a_sum_of_zero_is_no_barrier(self):
        net = (1, [], [(0, 0, 5, True)], [(0, 5)])
        self.take(False, net, ((), (0,), (0,)), [0], [0, 1, 1, 0])
        self.take(False, net, ((), (0,), (0,)), [0], [0, 0, 1, 1])
        less = (1, [], [(0, 0, 4, True)], [(0, 5)])
        self.take(True, less, ((), (0,), (0,)), [0], [0, 1, 1, 0])

    def test_dark_island_with_a_load(self):
        net = (2, [(0, 1, 3, 9)], [], [(1, 1)])
        self.take(True, net, ((), (), (0,)), [1], [1, 0])
        self.take(True, net, ((), (), (0,)), [1], [2, 1])
        self.take(False, net, ((), (), (0,)), [1], [0, 1])
        self.take(False, net, ((), (), (0,)), [1], [1, 1])
        self.take(False, net, ((), (), (0,)), [0], [1, 0])
        self.take(True, net, ((0,), (), (0,)), [0, 1], [0, 0, 1, 0, 1, 0])
        self.take(False, net, ((0,), (), (0,)), [0, 1], [0, 0, 0, 0, 1, 0])
        self.take(False, net, ((0,), (), ()), [0, 1], [0, 0, 1, 0, 1, 0])

    def test_a_line_that_cannot_bear_the_flow(self):
        # conditions: output, its bound, limit - flow, limit + flow, two for each node
        net = chain(1, 4, 0, 9, 5)
        self.take(True, net, ALL, [0, 1], [0, 0, 1, 0, 0, 0, 1, 0])
        self.take(False, net, ALL, [0, 1], [0, 0, 0, 1, 0, 0, 1, 0])
        self.take(False, net, ALL, [0, 1], [0, 0, 1, 0, 0, 0, 0, 1])
        self.take(False, chain(1, 5, 0, 9, 5), ALL, [0, 1], [0, 0, 1, 0, 0, 0, 1, 0])

    def test_lists_of_other_lengths(self):
        net = (1, [], [(0, 0, 3, True)], [(0, 5)])
        for integers in ([], [0], [0, 1, 1], [0, 1, 1, 0, 0], [1, 1, 0], [0, 0, 1, 1, 0], [1] * 9):
            self.take(False, net, ((), (0,), (0,)), [0], integers)
        self.take(False, net, ((), (), (0,)), [0], [1])
        self.take(False, net, ((), (), (0,)), [0], [1, 0, 0])

    def test_all_small_lists_are_judged_by_the_words_of_the_document(self):
        for net, state, island in (
                ((1, [], [(0, 0, 3, True)], [(0, 5)]), ((), (0,), (0,)), [0]),
                ((1, [], [(0, 4, 5, True)], [(0, 3)]), ((), (0,), (0,)), [0]),
                ((1, [], [(0, 3, 5, True)], [(0, 3)]), ((), (0,), (0,)), [0]),
                ((2, [(0, 1, 1, 4)], [], [(0, 5)]), ((0,), (), (0,)), [0, 1])):
            conditions = wanted_conditions(net, state, island)
            for integers in product((-1, 0, 1, 2), repeat=len(conditions)):
                wanted = proves_none(conditions, integers)
                self.assertIs(is_barrier(net, state, island, list(integers)), wanted)

    def test_changed_barriers_are_judged_by_the_words_of_the_document(self):
        random = Random(15)
        told = {True: 0, False: 0}
        for net, state, island in random_islands(16, 500):
            answer = run_island(net, state, island)
            if answer[0] == "yes":
                continue
            conditions = wanted_conditions(net, state, island)
            at = random.randrange(len(conditions) // 2) * 2
            tries = [answer[1], [3 * number for number in answer[1]], [-number for number in answer[1]]]
            for step in (-1, 1):
                tries.append(answer[1][:])
                tries[-1][at] += step
                tries.append(answer[1][:])
                tries[-1][at] += step
                tries[-1][at + 1] += step
            for integers in tries:
                wanted = proves_none(conditions, integers)
                told[wanted] += 1
                self.take(wanted, net, state, island, integers)
        self.assertGreater(min(told.values()), 100)


class RunTest(unittest.TestCase):
    def run_one(self, net, state, island):
        """Check the answer by what promises 6, 8 and 11 ask of it; return its word."""
        answer = assert_unchanged(self, run_island, net, state, island)
        with self.subTest(net=net, state=state, island=island, answer=answer):
            self.assertIs(type(answer), tuple)
            assert_plain(self, answer)
            if answer[0] == "yes":
                _, outputs, potentials = answer
                self.assertIs(type(outputs), list)
                self.assertIs(type(potentials), list)
                self.assertTrue(proves_dispatch(net, state, island, outputs, potentials))
                self.assertIs(is_dispatch(net, state, island, outputs, potentials), True)
            else:
                word, integers = answer
                self.assertEqual(word, "no")
                self.assertIs(type(integers), list)
                self.assertTrue(proves_none(wanted_conditions(net, state, island), integers))
                self.assertIs(is_barrier(net, state, island, integers), True)
                self.assertEqual(gcd(*integers), 1)
            feasible = assert_unchanged(self, is_feasible, net, state, island)
            self.assertIs(feasible, answer[0] == "yes")
        return answer[0]

    def yes(self, net, state, island):
        self.assertEqual(self.run_one(net, state, island), "yes", (net, state, island))

    def no(self, net, state, island):
        self.assertEqual(self.run_one(net, state, island), "no", (net, state, island))

    def test_a_dark_island_is_feasible_exactly_if_it_has_no_fed_loads(self):
        net = (3, [(0, 1, 1, 0), (1, 2, 1, 1000)], [(0, 0, 1000, True)], [(1, 1), (2, 1000), (0, 5)])
        for closed in all_parts(2):
            for fed in all_parts(3):
                for island in wanted_islands(net, closed):
                    loads = [k for k in fed if net[3][k][0] in island]
                    check = self.no if loads else self.yes
                    check(net, (closed, (), fed), island)

    def test_lit_island_without_loads(self):
        for least, greatest in ((0, 0), (0, 1), (0, 1000)):
            self.yes((1, [], [(0, least, greatest, True)], []), ((), (0,), ()), [0])
        for least, greatest in ((1, 1), (1, 1000), (1000, 1000)):
            self.no((1, [], [(0, least, greatest, True)], []), ((), (0,), ()), [0])

    def test_one_station_and_one_load(self):
        ends = (0, 1, 4, 5, 6, 999, 1000)
        for least, greatest, amount in product(ends, ends, (1, 5, 1000)):
            if least <= greatest:
                net = (1, [], [(0, least, greatest, False)], [(0, amount)])
                check = self.yes if least <= amount <= greatest else self.no
                check(net, ((), (0,), (0,)), [0])

    def test_sums_of_several_stations_and_loads_at_a_node(self):
        net = (1, [], [(0, 3, 5, True), (0, 0, 4, True), (0, 2, 2, True), (0, 10, 11, False)],
               [(0, 5), (0, 7), (0, 9), (0, 1)])
        for state in all_states(net):
            stations = [net[2][k] for k in state[1]]
            total = sum(net[3][k][1] for k in state[2])
            fits = sum(s[1] for s in stations) <= total <= sum(s[2] for s in stations)
            check = self.yes if fits else self.no
            check(net, state, [0])

    def test_limit_of_a_line(self):
        for limit, amount in product((0, 1, 4, 5, 6, 999, 1000), (1, 5, 1000)):
            for strength in (1, 7, 1000):
                check = self.yes if amount <= limit else self.no
                check(chain(strength, limit, 0, 1000, amount), ALL, [0, 1])
                check((2, [(0, 1, strength, limit)], [(1, 0, 1000, True)], [(0, amount)]), ALL, [0, 1])

    def test_lines_beside_each_other_share_by_strength(self):
        # The flows are as 1 to 4, so 10 are borne exactly if the limits are at least 2 and 8.
        for first, second in product((1, 2, 3), (7, 8, 9)):
            net = (2, [(0, 1, 1, first), (0, 1, 4, second)], [(0, 0, 50, True)], [(1, 10)])
            check = self.yes if first >= 2 and second >= 8 else self.no
            check(net, ((0, 1), (0,), (0,)), [0, 1])

    def test_one_line_more_may_be_too_much(self):
        net = (3, [(0, 1, 1, 10), (1, 2, 1, 10), (0, 2, 8, 3)], [(0, 0, 10, True)], [(2, 10)])
        self.yes(net, ((0, 1), (0,), (0,)), [0, 1, 2])
        self.no(net, ((0, 1, 2), (0,), (0,)), [0, 1, 2])
        self.no(net, ((2,), (0,), (0,)), [0, 2])

    def test_a_second_station_relieves_a_line(self):
        net = (2, [(0, 1, 5, 4)], [(0, 0, 50, True), (1, 0, 6, False)], [(1, 10)])
        self.no(net, ((0,), (0,), (0,)), [0, 1])
        self.no(net, ((0,), (1,), (0,)), [0, 1])
        self.yes(net, ((0,), (0, 1), (0,)), [0, 1])
        less = (2, [(0, 1, 5, 4)], [(0, 0, 50, True), (1, 0, 5, False)], [(1, 10)])
        self.no(less, ((0,), (0, 1), (0,)), [0, 1])

    def test_parted_net(self):
        self.no(PARTED, PARTED_STATE, [0, 2, 5])
        self.yes(PARTED, PARTED_STATE, [1, 4])
        self.yes(PARTED, PARTED_STATE, [3])

    def test_greatest_nets(self):
        self.yes(RING, WHOLE, list(range(8)))
        # At most 30 + 25 + 1000 + 30 are there, but 5 and 6 are fed over lines that bear little.
        self.no(TREE, WHOLE, list(range(8)))
        self.yes(TREE, (WHOLE[0], WHOLE[1], (1, 2, 3)), list(range(8)))
        great = (8, [(k, k + 1, 1000 - k, 1000) for k in range(7)] + [(0, 7, 1, 1000)],
                 [(0, 0, 1000, True), (2, 0, 1000, True), (4, 0, 1000, True), (6, 0, 1000, True)],
                 [(1, 1000), (3, 1000), (5, 1000), (7, 1000)])
        self.yes(great, WHOLE, list(range(8)))
        greater = great[:2] + ([(0, 0, 999, True)] + great[2][1:],) + great[3:]
        self.no(greater, WHOLE, list(range(8)))

    def test_states_of_the_greatest_nets(self):
        random = Random(17)
        told = {"yes": 0, "no": 0}
        for net in (RING, TREE):
            for _ in range(150):
                state = tuple(random_part(random, many, 0.8) for many in (8, 4, 4))
                for island in wanted_islands(net, state[0]):
                    told[self.run_one(net, state, island)] += 1
        self.assertGreater(min(told.values()), 50)

    def test_many_islands(self):
        told = {"yes": 0, "no": 0}
        for net, state, island in random_islands(18, 1500):
            told[self.run_one(net, state, island)] += 1
        self.assertGreater(min(told.values()), 300)

    def test_an_output_is_not_always_whole(self):
        # Both lines to the node 2 must bear their limits, and so all potentials are fixed.
        net = (3, [(0, 1, 2, 1000), (0, 2, 3, 1), (1, 2, 5, 1)],
               [(0, 0, 9, True), (1, 0, 9, True)], [(2, 2)])
        state = ((0, 1, 2), (0, 1), (0,))
        self.yes(net, state, [0, 1, 2])
        wanted = ("yes", [(19, 15), (11, 15)], [(0, 1), (-2, 15), (-1, 3)])
        self.assertEqual(run_island(net, state, [0, 1, 2]), wanted)


class ListsTest(unittest.TestCase):
    def test_returned_lists_are_new(self):
        assert_fresh(self, run_island, PARTED, PARTED_STATE, [1, 4])
        assert_fresh(self, run_island, PARTED, PARTED_STATE, [0, 2, 5])
        assert_fresh(self, run_island, PARTED, PARTED_STATE, [3])
        assert_fresh(self, run_island, RING, WHOLE, list(range(8)))

    def test_a_list_that_is_changed_later_is_looked_at_again(self):
        net = copy.deepcopy(chain(1, 5, 0, 9, 5))
        found = run_island(net, ALL, [0, 1])
        self.assertEqual(found, ("yes", pairs(5), pairs(0, -5)))
        self.assertIs(is_feasible(net, ALL, [0, 1]), True)
        net[1][0] = (0, 1, 1, 4)
        self.assertEqual(found, ("yes", pairs(5), pairs(0, -5)))
        self.assertIs(is_feasible(net, ALL, [0, 1]), False)
        self.assertEqual(run_island(net, ALL, [0, 1])[0], "no")
        self.assertIs(is_dispatch(net, ALL, [0, 1], found[1], found[2]), False)
        self.assertEqual(conditions_of(net, ALL, [0, 1])[2], [4, 0, 1])

    def test_values_of_a_dispatch(self):
        _, outputs, potentials = run_island(RING, WHOLE, list(range(8)))
        values = condition_values(RING, WHOLE, list(range(8)), [Fraction(*o) for o in outputs],
                                  [Fraction(*p) for p in potentials])
        self.assertEqual(len(values), 40)
        self.assertGreaterEqual(min(values), 0)


if __name__ == "__main__":
    unittest.main()
