"""Promises 2, 25, 26 and 27: costs, least costs with their weights, and total costs."""

import copy
import unittest
from fractions import Fraction
from random import Random

from relume.costs import cost_of, is_least, least_run, total_cost
from relume.dispatch import is_barrier, is_dispatch, run_island
from relume.errors import OutOfRange
from tests.helper import (ALL, DARK, FIXED, FIXED_STATE, PARTED, PARTED_STATE, RING, TREE, WHOLE,
                          all_states, assert_fresh, assert_plain, assert_unchanged,
                          assert_unchanged_when_raised, chain, is_lowest, pair, pairs, proved_cost,
                          proves_least, proves_none, random_islands, random_part, wanted_conditions,
                          wanted_islands, wanted_total, wanted_units)

# One node: a cheap station that is small, a dear one, and one with a least output.
MARKET = (1, [], [(0, 0, 3, True), (0, 0, 9, True), (0, 2, 4, False)], [(0, 5), (0, 1)])

# The greatest net: each station may feed each load, but the lines bear little.
GRID = (8, [(0, 1, 3, 40), (1, 2, 7, 35), (2, 3, 1000, 50), (3, 4, 11, 45), (4, 5, 2, 60), (5, 6, 13, 30),
            (6, 7, 17, 70), (0, 7, 5, 25)],
        [(0, 0, 100, True), (2, 10, 90, False), (4, 0, 80, False), (6, 5, 70, True)],
        [(1, 37), (3, 41), (5, 43), (7, 29)])

BAD_COSTS = {
    0: ([1], [0, 0], [-1]),
    1: ([], [1, 1], [-1], [1001], [-10 ** 30], [10 ** 30], [1, 2, 3]),
    2: ([], [1], [1, 1, 1], [-1, 0], [0, -1], [1001, 0], [0, 1001], [1, 2, 3, 4]),
    3: ([], [1, 1], [1, 1, 1, 1], [-1, 1, 1], [1, 1, -1], [1, 1001, 1], [1, 1, 1001]),
    4: ([], [1, 1, 1], [1] * 5, [1, 1, 1, -1], [-1, 1, 1, 1], [1, 1, 1, 1001], [1, 1001, 1, 1]),
}


def random_costs(random, net):
    return [random.choice((0, 1, 1, 2, 7, 999, 1000, random.randint(0, 1000))) for _ in net[2]]


class CostOfTest(unittest.TestCase):
    def costs(self, net, state, island, costs, outputs, wanted):
        with self.subTest(net=net, state=state, island=island, costs=costs, outputs=outputs):
            found = assert_unchanged(self, cost_of, net, state, island, costs, outputs)
            self.assertEqual(found, wanted)
            assert_plain(self, found)
            self.assertTrue(is_lowest(found))

    def refused(self, net, state, island, costs, outputs):
        with self.subTest(net=net, state=state, island=island, costs=costs, outputs=outputs):
            assert_unchanged_when_raised(self, OutOfRange, cost_of, net, state, island, costs, outputs)

    def test_one_station(self):
        net = chain(1, 9, 0, 9, 5)
        for cost, output, wanted in ((3, 5, 15), (0, 5, 0), (1000, 5, 5000), (3, 0, 0), (1000, 1000, 10 ** 6),
                                     (1, Fraction(1, 2), Fraction(1, 2)), (2, Fraction(1, 2), 1),
                                     (6, Fraction(5, 4), Fraction(15, 2)), (0, Fraction(5, 4), 0)):
            self.costs(net, ALL, [0, 1], [cost], pairs(output), pair(wanted))

    def test_sum_in_lowest_terms(self):
        state = ((), (0, 1, 2), (0,))
        self.costs(MARKET, state, [0], [1, 10, 100], pairs(1, 2, 2), (221, 1))
        self.costs(MARKET, state, [0], [1, 1, 1], pairs(Fraction(1, 6), Fraction(1, 3), Fraction(1, 2)), (1, 1))
        self.costs(MARKET, state, [0], [1, 1, 2], pairs(Fraction(1, 6), Fraction(1, 3), Fraction(1, 4)), (1, 1))
        self.costs(MARKET, state, [0], [3, 5, 7], pairs(Fraction(1, 3), Fraction(1, 5), Fraction(1, 2)), (11, 2))
        self.costs(MARKET, state, [0], [0, 0, 0], pairs(Fraction(1, 3), Fraction(1, 5), 4), (0, 1))
        self.costs(MARKET, state, [0], [1000, 1000, 1000], pairs(3, 9, 4), (16000, 1))

    def test_costs_stand_by_the_stations_of_the_net_and_outputs_by_those_of_the_island(self):
        # The island has the stations 0 and 2, the other one the station 1; the station 3 stands.
        self.costs(PARTED, PARTED_STATE, [0, 2, 5], [1, 10, 100, 1000], pairs(3, 2), (203, 1))
        self.costs(PARTED, PARTED_STATE, [1, 4], [1, 10, 100, 1000], pairs(3), (30, 1))
        self.costs(PARTED, PARTED_STATE, [3], [1, 10, 100, 1000], [], (0, 1))
        self.costs(MARKET, ((), (2,), ()), [0], [1, 10, 100], pairs(2), (200, 1))
        self.costs(MARKET, ((), (0, 2), ()), [0], [1, 10, 100], pairs(1, 2), (201, 1))

    def test_island_without_stations(self):
        self.costs((1, [], [], []), DARK, [0], [], [], (0, 1))
        self.costs(MARKET, DARK, [0], [5, 5, 5], [], (0, 1))
        self.costs((2, [(0, 1, 1, 1)], [], [(0, 1)]), ((0,), (), (0,)), [0, 1], [], [], (0, 1))

    def test_outputs_need_not_be_those_of_a_dispatch(self):
        state = ((), (0, 1), (0,))
        self.costs(MARKET, state, [0], [2, 3, 5], pairs(-1, 100), (298, 1))
        self.costs(MARKET, state, [0], [2, 3, 5], pairs(0, 0), (0, 1))
        self.costs(MARKET, state, [0], [2, 3, 5], pairs(Fraction(-7, 2), Fraction(1, 4)), (-25, 4))

    def test_great_fractions(self):
        part = Fraction(10 ** 40, 3 * 10 ** 40 + 1)
        self.costs(MARKET, ((), (0, 1), (0,)), [0], [7, 7, 0], pairs(part, 5 - part), (35, 1))
        self.costs(MARKET, ((), (0, 1), (0,)), [0], [7, 6, 0], pairs(part, 5 - part), pair(30 + part))

    def test_costs_that_are_out_of_range(self):
        for costs in BAD_COSTS[3]:
            self.refused(MARKET, ((), (0,), ()), [0], costs, pairs(1))
            self.refused(MARKET, DARK, [0], costs, [])
        for costs in BAD_COSTS[4]:
            self.refused(PARTED, PARTED_STATE, [3], costs, [])
            self.refused(PARTED, PARTED_STATE, [0, 2, 5], costs, pairs(1, 1))
        for costs in BAD_COSTS[0]:
            self.refused((1, [], [], []), DARK, [0], costs, [])

    def test_not_one_output_for_each_station(self):
        for outputs in (pairs(1), pairs(1, 1, 1), []):
            self.refused(PARTED, PARTED_STATE, [0, 2, 5], [1, 1, 1, 1], outputs)
        for outputs in ([], pairs(1, 1), pairs(0, 0, 0, 0)):
            self.refused(PARTED, PARTED_STATE, [1, 4], [1, 1, 1, 1], outputs)
        for outputs in (pairs(0), pairs(0, 0)):
            self.refused(PARTED, PARTED_STATE, [3], [1, 1, 1, 1], outputs)
            self.refused((1, [], [], []), DARK, [0], [], outputs)
        # one for each station of the net, but not for each of the island
        self.refused(MARKET, ((), (0, 1), ()), [0], [1, 1, 1], pairs(1, 1, 0))

    def test_dispatches_of_many_islands(self):
        random = Random(51)
        many = 0
        for net, state, island in random_islands(52, 300):
            answer = run_island(net, state, island)
            if answer[0] == "yes":
                costs = random_costs(random, net)
                units = wanted_units(net, state, island, costs)
                wanted = sum(unit * Fraction(*output) for unit, output in zip(units, answer[1]))
                self.costs(net, state, island, costs, answer[1], pair(wanted))
                many += 1
        self.assertGreater(many, 80)


class LeastCase(unittest.TestCase):
    def answer(self, net, state, island, costs):
        """Check the answer by what promise 26 asks of it; return it."""
        answer = assert_unchanged(self, least_run, net, state, island, costs)
        with self.subTest(net=net, state=state, island=island, costs=costs, answer=answer):
            self.assertIs(type(answer), tuple)
            assert_plain(self, answer)
            if answer[0] == "no":
                _, integers = answer
                self.assertIs(type(integers), list)
                self.assertTrue(proves_none(wanted_conditions(net, state, island), integers))
                self.assertIs(is_barrier(net, state, island, integers), True)
            else:
                word, cost, outputs, potentials, weights = answer
                self.assertEqual(word, "least")
                self.assertIs(type(cost), tuple)
                self.assertEqual([type(found) for found in answer[2:]], [list] * 3)
                self.assertTrue(proves_least(net, state, island, costs, answer))
                self.assertIs(is_dispatch(net, state, island, outputs, potentials), True)
                self.assertEqual(len(weights), len(wanted_conditions(net, state, island)))
                self.assertEqual(cost_of(net, state, island, costs, outputs), cost)
                judged = assert_unchanged(self, is_least, net, state, island, costs, answer)
                self.assertIs(judged, True)
        return answer

    def least(self, net, state, island, costs, cost, outputs=None):
        """Check that this is the least cost, and that only these outputs have it, if any are told."""
        with self.subTest(net=net, state=state, island=island, costs=costs):
            answer = self.answer(net, state, island, costs)
            self.assertEqual(answer[:2], ("least", pair(cost)))
            if outputs is not None:
                self.assertEqual(answer[2], pairs(*outputs))

    def no(self, net, state, island, costs):
        with self.subTest(net=net, state=state, island=island, costs=costs):
            self.assertEqual(self.answer(net, state, island, costs)[0], "no")


class LeastRunTest(LeastCase):
    def test_the_cheapest_station_comes_first(self):
        state = ((), (0, 1), (0,))
        self.least(MARKET, state, [0], [1, 5, 0], 13, (3, 2))
        self.least(MARKET, state, [0], [5, 1, 0], 5, (0, 5))
        self.least(MARKET, state, [0], [2, 2, 0], 10)
        self.least(MARKET, state, [0], [0, 5, 0], 10, (3, 2))
        self.least(MARKET, state, [0], [0, 1000, 0], 2000, (3, 2))
        self.least(MARKET, ((), (0, 1), (1,)), [0], [1, 5, 0], 1, (1, 0))
        self.least(MARKET, ((), (0, 1), (0, 1)), [0], [1, 5, 0], 18, (3, 3))
        self.least(MARKET, ((), (0, 1), ()), [0], [1, 5, 0], 0, (0, 0))

    def test_least_outputs(self):
        state = ((), (0, 1, 2), (0,))
        self.least(MARKET, state, [0], [1, 5, 1000], 2003, (3, 0, 2))
        self.least(MARKET, state, [0], [5, 1000, 1], 9, (1, 0, 4))
        self.no(MARKET, ((), (2,), (0,)), [0], [1, 1, 1])
        self.no(MARKET, ((), (2,), ()), [0], [1, 1, 1])
        self.least(MARKET, ((), (0, 2), (0,)), [0], [9, 9, 0], 9, (1, 4))

    def test_costs_of_0_and_1000(self):
        net = chain(3, 9, 0, 9, 5)
        for cost in (0, 1, 999, 1000):
            self.least(net, ALL, [0, 1], [cost], 5 * cost, (5,))
        great = chain(3, 1000, 0, 1000, 1000)
        self.least(great, ALL, [0, 1], [1000], 10 ** 6, (1000,))
        state = ((), (0, 1, 2), (0, 1))
        self.least(MARKET, state, [0], [0, 0, 0], 0)
        self.least(MARKET, state, [0], [1000, 1000, 1000], 6000)

    def test_outputs_at_their_limits(self):
        for least, greatest, amount in ((5, 5, 5), (0, 5, 5), (5, 9, 5), (1000, 1000, 1000), (0, 1000, 1000)):
            self.least(chain(1, 1000, least, greatest, amount), ALL, [0, 1], [7], 7 * amount, (amount,))
        for least, greatest, amount in ((6, 9, 5), (0, 4, 5), (0, 999, 1000)):
            self.no(chain(1, 1000, least, greatest, amount), ALL, [0, 1], [7])

    def test_a_line_at_its_limit(self):
        for limit, outputs in ((0, (0, 10)), (1, (1, 9)), (4, (4, 6)), (9, (9, 1)), (10, (10, 0)),
                               (1000, (10, 0))):
            net = (2, [(0, 1, 7, limit)], [(0, 0, 50, True), (1, 0, 60, True)], [(1, 10)])
            cost = 2 * outputs[0] + 5 * outputs[1]
            self.least(net, ((0,), (0, 1), (0,)), [0, 1], [2, 5], cost, outputs)
            turned = (2, [(0, 1, 7, limit)], [(1, 0, 50, True), (0, 0, 60, True)], [(0, 10)])
            self.least(turned, ((0,), (0, 1), (0,)), [0, 1], [2, 5], cost, outputs)
        for limit in (0, 4, 9):
            self.no(chain(7, limit, 0, 50, 10), ALL, [0, 1], [3])
        self.least(chain(7, 10, 0, 50, 10), ALL, [0, 1], [3], 30, (10,))

    def test_fractions(self):
        self.least(FIXED, FIXED_STATE, [0, 1, 2], [1, 1], 2, (Fraction(19, 15), Fraction(11, 15)))
        self.least(FIXED, FIXED_STATE, [0, 1, 2], [1, 0], Fraction(19, 15), (Fraction(19, 15), Fraction(11, 15)))
        self.least(FIXED, FIXED_STATE, [0, 1, 2], [15, 30], 41)
        # Three like lines in a ring: two thirds of the cheap output go over the line that bears 4.
        net = (3, [(0, 1, 1, 9), (0, 2, 1, 4), (1, 2, 1, 9)], [(0, 0, 50, True), (1, 0, 50, True)], [(2, 10)])
        self.least(net, ((0, 1, 2), (0, 1), (0,)), [0, 1, 2], [1, 5], 42, (2, 8))
        net = (3, [(0, 1, 1, 9), (0, 2, 2, 5), (1, 2, 1, 9)], net[2], [(2, 9)])
        self.least(net, ((0, 1, 2), (0, 1), (0,)), [0, 1, 2], [1, 4], Fraction(51, 2),
                   (Fraction(7, 2), Fraction(11, 2)))

    def test_several_stations_and_loads_at_a_node(self):
        net = (2, [(0, 1, 2, 6)], [(0, 0, 2, True), (0, 1, 3, True), (1, 0, 4, True), (1, 2, 9, True)],
               [(0, 1), (1, 3), (1, 4), (0, 1)])
        state = ((0,), (0, 1, 2, 3), (0, 1, 2, 3))
        self.least(net, state, [0, 1], [1, 2, 3, 4], 2 + 6 + 6 + 8, (2, 3, 2, 2))
        self.least(net, state, [0, 1], [4, 3, 2, 1], 3 + 8, (0, 1, 0, 8))
        self.least(net, state, [0, 1], [9, 9, 1, 9], 4 + 45)

    def test_dark_islands(self):
        self.least((1, [], [], []), DARK, [0], [], 0, ())
        for closed, island in (((), [0]), ((), [1]), ((0,), [0, 1])):
            self.least(chain(3, 9, 1, 9, 5), (closed, (), ()), island, [8], 0, ())
        self.no(chain(3, 9, 1, 9, 5), ((), (0,), (0,)), [1], [8])
        self.no(chain(3, 9, 1, 9, 5), ((0,), (), (0,)), [0, 1], [8])
        self.least(PARTED, PARTED_STATE, [3], [1, 1, 1, 1], 0, ())

    def test_lit_island_without_loads(self):
        self.least(chain(3, 9, 0, 9, 5), ((), (0,), ()), [0], [8], 0, (0,))
        self.least(chain(3, 9, 0, 9, 5), ((0,), (0,), ()), [0, 1], [8], 0, (0,))
        self.no(chain(3, 9, 1, 9, 5), ((0,), (0,), ()), [0, 1], [8])

    def test_only_the_costs_of_the_stations_of_the_island_count(self):
        self.least(PARTED, PARTED_STATE, [1, 4], [1000, 3, 1000, 1000], 18, (6,))
        self.no(PARTED, PARTED_STATE, [0, 2, 5], [1, 1, 1, 1])
        less = (PARTED_STATE[0], (0, 1, 2), (1, 3))
        self.no(PARTED, less, [0, 2, 5], [1, 1, 1, 1])
        self.least(PARTED, (PARTED_STATE[0], (0, 1), (1, 3)), [0, 2, 5], [7, 1000, 1000, 1000], 7, (1,))
        more = (PARTED[0], PARTED[1], [(2, 0, 8, True)] + PARTED[2][1:], PARTED[3][:3] + [(0, 3)])
        self.least(more, less, [0, 2, 5], [7, 1000, 20, 1000], 47, (1, 2))

    def test_costs_that_are_out_of_range(self):
        for net, state, island in ((MARKET, ((), (0, 1), (0,)), [0]), (MARKET, DARK, [0]),
                                   (MARKET, ((), (2,), (0,)), [0]), (PARTED, PARTED_STATE, [3]),
                                   (PARTED, PARTED_STATE, [0, 2, 5]), (chain(1, 9, 0, 9, 5), ALL, [0, 1]),
                                   ((1, [], [], []), DARK, [0]), (FIXED, FIXED_STATE, [0, 1, 2])):
            for costs in BAD_COSTS[len(net[2])]:
                with self.subTest(net=net, state=state, costs=costs):
                    assert_unchanged_when_raised(self, OutOfRange, least_run, net, state, island, costs)

    def test_greatest_nets(self):
        nodes = list(range(8))
        for costs in ([1, 2, 3, 4], [4, 3, 2, 1], [0, 1000, 0, 1000], [0, 0, 0, 0], [1000, 999, 998, 997],
                      [7, 7, 7, 7]):
            for net in (RING, GRID):
                self.assertEqual(self.answer(net, WHOLE, nodes, costs)[0], "least")
            self.assertEqual(self.answer(TREE, WHOLE, nodes, costs)[0], "no")
            part = (WHOLE[0], WHOLE[1], (1, 2, 3))
            self.assertEqual(self.answer(TREE, part, nodes, costs)[0], "least")
        # no dispatch that solve finds by itself costs less
        for net in (RING, GRID):
            outputs = run_island(net, WHOLE, nodes)[1]
            for costs in ([1, 2, 3, 4], [1000, 1, 500, 30]):
                cost = least_run(net, WHOLE, nodes, costs)[1]
                self.assertLessEqual(Fraction(*cost), Fraction(*cost_of(net, WHOLE, nodes, costs, outputs)))

    def test_states_of_the_greatest_nets(self):
        random = Random(53)
        told = {"least": 0, "no": 0}
        for net in (RING, GRID, TREE):
            for _ in range(80):
                state = tuple(random_part(random, many, 0.8) for many in (8, 4, 4))
                for island in wanted_islands(net, state[0]):
                    told[self.answer(net, state, island, random_costs(random, net))[0]] += 1
        self.assertGreater(min(told.values()), 50)

    def test_many_islands(self):
        random = Random(54)
        told = {"least": 0, "no": 0}
        for net, state, island in random_islands(55, 900):
            word = self.answer(net, state, island, random_costs(random, net))[0]
            self.assertEqual(word == "least", run_island(net, state, island)[0] == "yes")
            told[word] += 1
        self.assertGreater(min(told.values()), 200)

    def test_lists_are_new(self):
        assert_fresh(self, least_run, PARTED, PARTED_STATE, [1, 4], [1, 2, 3, 4])
        assert_fresh(self, least_run, PARTED, PARTED_STATE, [0, 2, 5], [1, 2, 3, 4])
        assert_fresh(self, least_run, PARTED, PARTED_STATE, [3], [1, 2, 3, 4])
        assert_fresh(self, least_run, GRID, WHOLE, list(range(8)), [1, 2, 3, 4])
        assert_fresh(self, least_run, (1, [], [], []), DARK, [0], [])

    def test_a_list_that_is_changed_later_is_looked_at_again(self):
        net = copy.deepcopy(MARKET)
        state = ((), (0, 1), (0,))
        costs = [1, 5, 0]
        found = least_run(net, state, [0], costs)
        before = copy.deepcopy(found)
        costs[1] = 0
        self.assertEqual(found, before)
        self.assertEqual(least_run(net, state, [0], costs)[1], (0, 1))
        self.assertIs(is_least(net, state, [0], costs, found), False)
        costs[1] = 5
        net[3][0] = (0, 4)
        self.assertEqual(found, before)
        self.assertEqual(least_run(net, state, [0], costs)[1], (8, 1))
        self.assertIs(is_least(net, state, [0], costs, found), False)
        self.assertEqual(total_cost(net, state, costs), (8, 1))


class IsLeastTest(unittest.TestCase):
    # Conditions: output 0 - 0, 3 - output 0, output 1 - 0, 9 - output 1, excess, minus excess; load 5.
    state = ((), (0, 1), (0,))
    costs = [1, 5, 0]
    weights = [(0, 1), (4, 1), (0, 1), (0, 1), (5, 1), (0, 1)]

    def take(self, wanted, answer, net=MARKET, state=state, island=(0,), costs=(1, 5, 0)):
        island = list(island)
        costs = list(costs)
        with self.subTest(net=net, state=state, island=island, costs=costs, answer=answer):
            self.assertIs(assert_unchanged(self, is_least, net, state, island, costs, answer), wanted)
            self.assertIs(proves_least(net, state, island, costs, answer), wanted)

    def market(self, wanted, cost=(13, 1), outputs=((3, 1), (2, 1)), potentials=((0, 1),), weights=None):
        weights = self.weights if weights is None else weights
        self.take(wanted, ("least", cost, list(outputs), list(potentials), list(weights)))

    def test_right(self):
        self.market(True)

    def test_other_word(self):
        for word in ("yes", "no", "most", "Least", ""):
            answer = (word, (13, 1), pairs(3, 2), pairs(0), self.weights)
            self.assertIs(is_least(MARKET, self.state, [0], self.costs, answer), False)

    def test_other_cost(self):
        for cost in ((12, 1), (14, 1), (0, 1), (-13, 1), (27, 2), (13 * 10 ** 30 + 1, 10 ** 30)):
            self.market(False, cost=cost)
        # a lower cost with weights that show it is not that of the dispatch
        self.market(False, cost=(12, 1), weights=[(0, 1), (13, 3), (0, 1), (0, 1), (5, 1), (0, 1)])

    def test_other_dispatch(self):
        self.market(False, outputs=((2, 1), (3, 1)))
        self.market(False, outputs=((4, 1), (1, 1)))
        self.market(False, outputs=((3, 1), (3, 1)))
        self.market(False, outputs=((8, 1), (1, 1)))
        self.market(False, outputs=((0, 1), (13, 5)))
        self.market(False, potentials=((1, 1),))
        # a dispatch with its own cost, which is not the least one
        self.market(False, cost=(17, 1), outputs=((2, 1), (3, 1)))
        weights = [(0, 1), (4, 1), (0, 1), (0, 1), (5, 1), (4, 5)]
        self.market(False, cost=(17, 1), outputs=((2, 1), (3, 1)), weights=weights)

    def test_weights_that_show_it_too(self):
        for shift in ((1, 1), (7, 2), (10 ** 40, 10 ** 40 + 1)):
            both = pair(5 + Fraction(*shift))
            self.market(True, weights=self.weights[:4] + [both, shift])
        # equal costs: each unit is worth as much
        for part in (0, 1, Fraction(5, 3)):
            weights = pairs(part, part, 0, 0, 2, 0)
            right = part == 0
            self.take(right, ("least", (10, 1), pairs(1, 4), pairs(0), weights), costs=(2, 2, 0))
            self.take(right, ("least", (10, 1), pairs(3, 2), pairs(0), weights), costs=(2, 2, 0))

    def test_weights_below_0(self):
        self.market(False, weights=[(0, 1), (4, 1), (0, 1), (0, 1), (4, 1), (-1, 1)])
        self.market(False, weights=[(-4, 1), (0, 1), (0, 1), (0, 1), (5, 1), (0, 1)])
        self.market(False, weights=[(-1, 1), (3, 1), (0, 1), (0, 1), (5, 1), (0, 1)])
        # the weights of another dispatch's cost would have to be below 0
        weights = pairs(0, 0, -4, 0, 1, 0)
        self.market(False, cost=(17, 1), outputs=((2, 1), (3, 1)), weights=weights)

    def test_each_weight_alone(self):
        for at in range(6):
            for part in (1, -1, Fraction(1, 10 ** 30)):
                weights = self.weights[:]
                weights[at] = pair(Fraction(*weights[at]) + part)
                self.market(False, weights=weights)

    def test_sums(self):
        # an output's cost is missed, or the first item
        self.market(False, weights=pairs(1, 5, 0, 0, 5, 0))
        self.market(False, weights=pairs(0, 4, 1, 1, 5, 0))
        self.market(False, weights=pairs(0, 3, 0, 0, 5, 0))
        self.market(False, weights=pairs(0, 4, 0, 0, 4, 0))
        self.market(False, weights=pairs(0, 4, 1, 0, 5, 0))
        self.market(False, weights=pairs(0, 0, 0, 0, 0, 0))
        # the sum at a potential must be 0
        net = chain(7, 9, 0, 9, 5)
        for times, wanted in ((0, True), (1, False)):
            # output, its bound, limit - flow, limit + flow, two for each node
            weights = pairs(0, 0, 0, 0, 3, 0, 3 + times, 0)
            self.take(wanted, ("least", (15, 1), pairs(5), pairs(0, Fraction(-5, 7)), weights), net=net,
                      state=ALL, island=(0, 1), costs=(3,))

    def test_only_a_potential_is_not_balanced(self):
        # A line that bears nothing: its condition adds nothing but to a potential.
        net = (2, [(0, 1, 7, 0)], [(0, 0, 9, True)], [(0, 5)])
        weights = pairs(0, 0, 0, 0, 3, 0, 0, 0)
        for at in range(8):
            changed = weights[:]
            changed[at] = pair(Fraction(*weights[at]) + 1)
            self.take(False, ("least", (15, 1), pairs(5), pairs(0, 0), changed), net=net, state=ALL[:2] + ((0,),),
                      island=(0, 1), costs=(3,))
        both = pairs(0, 0, 1, 1, 3, 0, 0, 0)
        for right in (pairs(0, 0, 0, 0, 3, 0, 3, 0), both[:4] + pairs(3, 0, 3, 0)):
            self.take(True, ("least", (15, 1), pairs(5), pairs(0, 0), right), net=net, state=ALL,
                      island=(0, 1), costs=(3,))

    def test_lists_of_other_lengths(self):
        for outputs in ((), ((3, 1),), ((3, 1), (2, 1), (0, 1)), ((13, 1),), ((0, 1), (3, 1), (2, 1))):
            self.market(False, outputs=outputs)
        for potentials in ((), ((0, 1), (0, 1))):
            self.market(False, potentials=potentials)
        for weights in ([], self.weights[:5], self.weights[1:], self.weights + [(0, 1)], self.weights * 2,
                        [(0, 1)] + self.weights, [(0, 1)] * 6):
            self.market(False, weights=weights)

    def test_fractions_that_are_not_in_lowest_terms(self):
        for cost in ((26, 2), (-13, -1), (130, 10), (13, 0)):
            self.market(False, cost=cost)
        for outputs in (((6, 2), (2, 1)), ((3, 1), (4, 2)), ((-3, -1), (2, 1))):
            self.market(False, outputs=outputs)
        for potential in ((0, 2), (0, -1), (0, 0), (0, 10 ** 30)):
            self.market(False, potentials=(potential,))
        for at in range(6):
            top, low = self.weights[at]
            for times in (2, -1, 3, 0):
                weights = self.weights[:]
                weights[at] = (top * times, low * times)
                self.market(False, weights=weights)
        # a cost of 0 as well
        zero = pairs(0, 0, 0, 0, 0, 0)
        self.take(True, ("least", (0, 1), pairs(3, 2), pairs(0), zero), costs=(0, 0, 0))
        for cost in ((0, 2), (0, -1), (0, 0)):
            self.take(False, ("least", cost, pairs(3, 2), pairs(0), zero), costs=(0, 0, 0))
        for low in (2, -1, 0):
            self.take(False, ("least", (0, 1), pairs(3, 2), pairs(0), zero[:5] + [(0, low)]), costs=(0, 0, 0))

    def test_dark_islands(self):
        net = (1, [], [], [(0, 5)])
        self.take(True, ("least", (0, 1), [], pairs(0), pairs(0, 0)), net=net, state=DARK, costs=())
        self.take(True, ("least", (0, 1), [], pairs(0), pairs(7, 7)), net=net, state=DARK, costs=())
        self.take(False, ("least", (1, 1), [], pairs(0), pairs(0, 0)), net=net, state=DARK, costs=())
        self.take(False, ("least", (0, 1), [], pairs(0), []), net=net, state=DARK, costs=())
        fed = ((), (), (0,))
        self.take(False, ("least", (0, 1), [], pairs(0), pairs(0, 0)), net=net, state=fed, costs=())
        self.take(False, ("least", (5, 1), [], pairs(0), pairs(1, 0)), net=net, state=fed, costs=())

    def test_the_costs_are_those_of_the_stations_of_the_island(self):
        weights = pairs(0, 0, 0, 0, 0, 0, 3, 0, 3, 0)
        answer = ("least", (18, 1), pairs(6), pairs(0, 1), weights)
        for costs, wanted in (((9, 3, 9, 9), True), ((3, 9, 9, 9), False), ((3, 9, 3, 3), False),
                              ((0, 3, 0, 0), True)):
            self.take(wanted, answer, net=PARTED, state=PARTED_STATE, island=(1, 4), costs=costs)

    def test_costs_that_are_out_of_range(self):
        right = ("least", (13, 1), pairs(3, 2), pairs(0), self.weights)
        wrong = ("least", (26, 2), [], [], [])
        for costs in BAD_COSTS[3]:
            for answer in (right, wrong):
                with self.subTest(costs=costs, answer=answer):
                    arguments = (MARKET, self.state, [0], costs, answer)
                    assert_unchanged_when_raised(self, OutOfRange, is_least, *arguments)
        for costs in BAD_COSTS[0]:
            with self.assertRaises(OutOfRange):
                is_least((1, [], [], []), DARK, [0], costs, ("least", (0, 1), [], pairs(0), pairs(0, 0)))

    def test_changed_answers_are_judged_by_the_words_of_the_document(self):
        random = Random(56)
        told = {True: 0, False: 0}
        for net, state, island in random_islands(57, 500):
            costs = random_costs(random, net)
            answer = least_run(net, state, island, costs)
            if answer[0] == "no":
                continue
            for _ in range(4):
                _, cost, *lists = copy.deepcopy(answer)
                node = random.randrange(len(island))
                part = random.choice((1, Fraction(1, 3)))
                kind = random.randrange(4)
                if kind == 0 and len(lists[0]) > 1:
                    first, second = random.sample(range(len(lists[0])), 2)
                    lists[0][first] = pair(Fraction(*lists[0][first]) + part)
                    lists[0][second] = pair(Fraction(*lists[0][second]) - part)
                    cost = cost_of(net, state, island, costs, lists[0])
                elif kind == 1:
                    # both conditions of a node cancel each other
                    for at in (2 * node - 2 * len(island), 2 * node - 2 * len(island) + 1):
                        lists[2][at] = pair(Fraction(*lists[2][at]) + part)
                elif kind == 2:
                    at = random.randrange(len(lists[2]))
                    lists[2][at] = pair(Fraction(*lists[2][at]) + part)
                else:
                    cost = pair(Fraction(*cost) + random.choice((0, 0, part, -part)))
                changed = ("least", cost, *lists)
                wanted = proves_least(net, state, island, costs, changed)
                told[wanted] += 1
                self.take(wanted, changed, net=net, state=state, island=island, costs=costs)
        self.assertGreater(min(told.values()), 150)


class TotalTest(unittest.TestCase):
    def total(self, net, state, costs, wanted):
        with self.subTest(net=net, state=state, costs=costs):
            found = assert_unchanged(self, total_cost, net, state, costs)
            self.assertEqual(found, wanted)
            if wanted is not None:
                assert_plain(self, found)
                self.assertTrue(is_lowest(found))

    def test_no_lit_island(self):
        self.total((1, [], [], []), DARK, [], (0, 1))
        self.total((1, [], [], [(0, 5)]), DARK, [], (0, 1))
        self.total(MARKET, DARK, [1, 2, 3], (0, 1))
        self.total(RING, (WHOLE[0], (), ()), [1, 2, 3, 4], (0, 1))

    def test_dark_islands_do_not_count_whatever_is_fed_there(self):
        self.total((1, [], [], [(0, 5)]), ((), (), (0,)), [], (0, 1))
        self.total(chain(1, 9, 0, 9, 5), ((), (0,), (0,)), [3], (0, 1))
        self.total(chain(1, 9, 0, 9, 5), ((0,), (), (0,)), [3], (0, 1))

    def test_one_island(self):
        self.total(MARKET, ((), (0, 1), (0,)), [1, 5, 0], (13, 1))
        self.total(MARKET, ((), (0, 1), (0,)), [0, 0, 0], (0, 1))
        self.total(FIXED, FIXED_STATE, [1, 0], (19, 15))
        self.total(chain(1, 1000, 0, 1000, 1000), ALL, [1000], (10 ** 6, 1))

    def test_sum_of_islands(self):
        net = (4, [(0, 1, 1, 9), (2, 3, 1, 9)],
               [(0, 0, 9, True), (1, 0, 9, True), (2, 0, 9, True), (3, 2, 9, True)],
               [(1, 5), (2, 4), (0, 1), (3, 1)])
        state = ((0, 1), (0, 1, 2, 3), (0, 1, 2, 3))
        self.total(net, state, [1, 2, 3, 4], (6 + 9 + 8, 1))
        self.total(net, state, [10, 1000, 1, 0], (60, 1))
        self.total(net, state, [0, 0, 0, 1000], (2000, 1))
        # each island by itself
        self.total(net, ((), (0, 1, 2, 3), (0, 1, 2)), [1, 2, 3, 4], None)
        self.total(net, ((), (0, 1, 2), (0, 1, 2)), [1, 2, 3, 4], (1 + 10 + 12, 1))
        # twice the fractions of a net whose potentials are fixed
        twice = (6, FIXED[1] + [(a + 3, b + 3, strength, limit) for a, b, strength, limit in FIXED[1]],
                 FIXED[2] + [(node + 3, least, most, own) for node, least, most, own in FIXED[2]],
                 FIXED[3] + [(5, 2)])
        whole = (tuple(range(6)), (0, 1, 2, 3), (0, 1))
        self.total(twice, whole, [1, 0, 1, 0], (38, 15))
        self.total(twice, whole, [1, 0, 0, 1], (2, 1))
        self.total(twice, whole, [15, 0, 0, 5], pair(19 + Fraction(11, 3)))

    def test_an_island_that_is_not_feasible(self):
        self.total(MARKET, ((), (2,), ()), [1, 1, 1], None)
        self.total(MARKET, ((), (0,), (0,)), [0, 0, 0], None)
        self.total(PARTED, PARTED_STATE, [1, 2, 3, 4], None)
        net = (2, [], [(0, 0, 9, True), (1, 0, 9, True)], [(0, 9), (1, 9), (0, 1), (1, 1)])
        self.total(net, ((), (0, 1), (0, 1)), [1, 2], (27, 1))
        self.total(net, ((), (0, 1), (0, 1, 2)), [1, 2], None)
        self.total(net, ((), (0, 1), (0, 1, 3)), [1, 2], None)
        self.total(net, ((), (0,), (0, 1, 3)), [1, 2], (9, 1))

    def test_all_states(self):
        random = Random(58)
        told = {True: 0, False: 0}
        small = (3, [(0, 1, 2, 3), (1, 2, 3, 4)], [(0, 0, 5, True), (1, 1, 4, False), (2, 2, 3, True)],
                 [(1, 4), (2, 3)])
        for net in (small, MARKET, FIXED):
            for state in all_states(net):
                costs = random_costs(random, net)
                wanted = wanted_total(net, state, costs)
                told[wanted is None] += 1
                self.total(net, state, costs, wanted)
        self.assertGreater(min(told.values()), 60)

    def test_greatest_nets(self):
        random = Random(59)
        found = 0
        for net in (RING, GRID, TREE):
            for _ in range(40):
                state = tuple(random_part(random, many, chance) for many, chance in ((8, 0.7), (4, 0.8), (4, 0.4)))
                costs = random_costs(random, net)
                wanted = wanted_total(net, state, costs)
                self.total(net, state, costs, wanted)
                found += wanted not in (None, (0, 1))
        self.assertGreater(found, 8)
        self.assertEqual(proved_cost(GRID, WHOLE, list(range(8)), [3, 1, 4, 1]),
                         Fraction(*total_cost(GRID, WHOLE, [3, 1, 4, 1])))

    def test_costs_that_are_out_of_range(self):
        for net, state in ((MARKET, ((), (0, 1), (0,))), (MARKET, DARK), (MARKET, ((), (2,), ())),
                           (PARTED, PARTED_STATE), (chain(1, 9, 0, 9, 5), ALL), ((1, [], [], []), DARK),
                           (FIXED, FIXED_STATE)):
            for costs in BAD_COSTS[len(net[2])]:
                with self.subTest(net=net, state=state, costs=costs):
                    assert_unchanged_when_raised(self, OutOfRange, total_cost, net, state, costs)


if __name__ == "__main__":
    unittest.main()
