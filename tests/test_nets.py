"""Promises 2, 3 and 4: valid nets, their states, and full states."""

import copy
import unittest

from relume.errors import BadNet, BadState
from relume.nets import check_net, check_state, is_full
from tests.helper import all_parts, assert_unchanged, assert_unchanged_when_raised

HUGE = 10 ** 30

# The places of the three lists in a net, and the most items that each may have.
LINES, STATIONS, LOADS = 1, 2, 3
MOST = {LINES: 8, STATIONS: 4, LOADS: 4}


def nets_with(at, item):
    """Return nets of 4 nodes whose list at this place has the item, alone or among good ones."""
    nets = []
    most = MOST[at]
    for before, after in ((0, 0), (0, 2), (1, 1), (most - 1, 0), (0, most - 1)):
        net = [4, [(0, 1, 5, 10)], [(1, 0, 10, False)], [(2, 5)]]
        net[at] = net[at] * before + [item] + net[at] * after
        nets.append(tuple(net))
    return nets


class NetTest(unittest.TestCase):
    def good(self, net):
        with self.subTest(good=net):
            self.assertIsNone(assert_unchanged(self, check_net, net))

    def bad(self, net):
        with self.subTest(bad=net):
            assert_unchanged_when_raised(self, BadNet, check_net, net)

    def good_item(self, at, item):
        for net in nets_with(at, item):
            self.good(net)

    def bad_item(self, at, item):
        for net in nets_with(at, item):
            self.bad(net)

    def test_numbers_of_nodes(self):
        for nodes in range(1, 9):
            self.good((nodes, [], [], []))

    def test_wrong_numbers_of_nodes(self):
        for nodes in (0, 9, 10, -1, -2, -8, HUGE, -HUGE):
            self.bad((nodes, [], [], []))
        self.bad((9, [(0, 1, 1, 1)], [(0, 0, 1, True)], [(0, 1)]))
        self.bad((0, [(0, 1, 1, 1)], [(0, 0, 1, True)], [(0, 1)]))

    def test_net_of_one_node(self):
        self.good((1, [], [(0, 0, 1000, True)] * 4, [(0, 1000)] * 4))
        self.bad((1, [(0, 1, 1, 0)], [], []))
        self.bad((1, [(0, 0, 1, 0)], [], []))
        self.bad((1, [], [(1, 0, 0, True)], []))
        self.bad((1, [], [], [(1, 1)]))

    def test_net_of_eight_nodes_with_full_lists(self):
        ring = [(k, k + 1, 1, 0) for k in range(7)] + [(0, 7, 1000, 1000)]
        stations = [(0, 0, 0, True), (7, 1000, 1000, False), (3, 0, 1000, True), (4, 5, 6, False)]
        loads = [(0, 1), (7, 1000), (7, 500), (2, 2)]
        self.good((8, ring, stations, loads))

    def test_one_list_full_and_the_others_empty(self):
        self.good((2, [(0, 1, 1, 1)] * 8, [], []))
        self.good((2, [], [(1, 0, 1, False)] * 4, []))
        self.good((2, [], [], [(1, 1)] * 4))

    def test_too_long_lists(self):
        for more in (1, 2, 5):
            self.bad((2, [(0, 1, 1, 1)] * (8 + more), [], []))
            self.bad((2, [], [(1, 0, 1, False)] * (4 + more), []))
            self.bad((2, [], [], [(1, 1)] * (4 + more)))

    def test_too_long_lists_of_different_items(self):
        lines = [(a, b, 1, 1) for a in range(4) for b in range(a + 1, 5)]
        self.good((5, lines[:8], [], []))
        self.bad((5, lines[:9], [], []))
        self.good((5, [], [(k, 0, k, True) for k in range(4)], [(k, k + 1) for k in range(4)]))
        self.bad((5, [], [(k, 0, k, True) for k in range(5)], []))
        self.bad((5, [], [], [(k, k + 1) for k in range(5)]))

    def test_several_items_at_the_same_nodes(self):
        lines = [(0, 1, 1, 1), (0, 1, 2, 2), (0, 1, 1, 1)]
        stations = [(1, 0, 5, True), (1, 0, 5, False), (1, 0, 5, True)]
        self.good((2, lines, stations, [(1, 3), (1, 3), (1, 4)]))

    def test_nodes_of_a_line(self):
        for a in range(4):
            for b in range(a + 1, 4):
                self.good_item(LINES, (a, b, 1, 1))

    def test_line_with_a_node_that_does_not_exist(self):
        for line in ((0, 4, 1, 1), (3, 4, 1, 1), (4, 5, 1, 1), (-1, 0, 1, 1), (-1, 3, 1, 1),
                     (-2, -1, 1, 1), (0, HUGE, 1, 1), (-HUGE, 0, 1, 1), (0, 8, 1, 1)):
            self.bad_item(LINES, line)

    def test_line_from_a_node_to_itself(self):
        for node in range(4):
            self.bad_item(LINES, (node, node, 1, 1))

    def test_line_turned_round(self):
        for a, b in ((1, 0), (3, 0), (3, 2), (2, -1), (4, 0)):
            self.bad_item(LINES, (a, b, 1, 1))

    def test_strength(self):
        for strength in (1, 2, 999, 1000):
            self.good_item(LINES, (0, 1, strength, 1))
        for strength in (0, -1, 1001, -1000, HUGE, -HUGE):
            self.bad_item(LINES, (0, 1, strength, 1))

    def test_limit(self):
        for limit in (0, 1, 999, 1000):
            self.good_item(LINES, (0, 1, 1, limit))
        for limit in (-1, -1000, 1001, HUGE, -HUGE):
            self.bad_item(LINES, (0, 1, 1, limit))

    def test_node_of_a_station(self):
        for node in range(4):
            self.good_item(STATIONS, (node, 0, 1, True))
        for node in (4, 5, 8, -1, -4, HUGE, -HUGE):
            self.bad_item(STATIONS, (node, 0, 1, True))

    def test_outputs_of_a_station(self):
        for least, greatest in ((0, 0), (0, 1), (1, 1), (0, 1000), (999, 1000), (1000, 1000)):
            self.good_item(STATIONS, (0, least, greatest, True))
            self.good_item(STATIONS, (0, least, greatest, False))

    def test_least_output_below_zero(self):
        for least, greatest in ((-1, 0), (-1, 1000), (-1, -1), (-2, -1), (-HUGE, 5)):
            self.bad_item(STATIONS, (0, least, greatest, False))

    def test_greatest_output_above_its_bound(self):
        for least, greatest in ((0, 1001), (1000, 1001), (1001, 1001), (1001, 1002), (0, HUGE)):
            self.bad_item(STATIONS, (0, least, greatest, True))

    def test_least_output_above_the_greatest_one(self):
        for least, greatest in ((1, 0), (1000, 999), (1000, 0), (501, 500), (1001, 1000)):
            self.bad_item(STATIONS, (0, least, greatest, True))

    def test_node_of_a_load(self):
        for node in range(4):
            self.good_item(LOADS, (node, 1))
        for node in (4, 5, 8, -1, -4, HUGE, -HUGE):
            self.bad_item(LOADS, (node, 1))

    def test_amount_of_a_load(self):
        for amount in (1, 2, 999, 1000):
            self.good_item(LOADS, (0, amount))
        for amount in (0, -1, -1000, 1001, HUGE, -HUGE):
            self.bad_item(LOADS, (0, amount))

    def test_the_last_node_depends_on_the_number_of_nodes(self):
        for nodes in range(2, 9):
            last = nodes - 1
            self.good((nodes, [(0, last, 1, 1)], [(last, 0, 1, True)], [(last, 1)]))
            self.bad((nodes, [(0, nodes, 1, 1)], [], []))
            self.bad((nodes, [], [(nodes, 0, 1, True)], []))
            self.bad((nodes, [], [], [(nodes, 1)]))

    def test_a_list_that_is_changed_later_is_looked_at_again(self):
        net = (2, [(0, 1, 1, 1)], [(0, 0, 1, True)], [(1, 1)])
        self.good(net)
        net[1].append((0, 2, 1, 1))
        self.bad(net)
        net[1].pop()
        self.good(net)


class StateTest(unittest.TestCase):
    # Each list has another length, so that a part that is held against a wrong list is noticed.
    net = (3, [(0, 1, 1, 1), (1, 2, 1, 1), (0, 2, 1, 1), (0, 2, 2, 2)],
           [(0, 0, 9, True), (1, 0, 9, False), (2, 0, 9, False)],
           [(0, 4), (2, 5)])
    turned = (3, [(0, 1, 1, 1), (1, 2, 1, 1)],
              [(0, 0, 9, True), (1, 0, 9, False), (2, 0, 9, False)],
              [(0, 4), (2, 5), (1, 5), (1, 6)])
    empty = (1, [], [], [])

    def good(self, net, state):
        with self.subTest(net=net, good=state):
            self.assertIsNone(assert_unchanged(self, check_state, net, state))

    def bad(self, net, state):
        with self.subTest(net=net, bad=state):
            assert_unchanged_when_raised(self, BadState, check_state, net, state)

    def bad_part(self, part, at):
        """The part is faulty at this place of the state, whatever the other two are."""
        for net in (self.net, self.turned):
            for others in (((), (), ()), tuple(tuple(range(len(items))) for items in net[1:])):
                state = list(others)
                state[at] = part
                self.bad(net, tuple(state))

    def test_all_states(self):
        for net in (self.net, self.turned):
            for closed in all_parts(len(net[1])):
                for running in all_parts(len(net[2])):
                    for fed in all_parts(len(net[3])):
                        self.good(net, (closed, running, fed))

    def test_longest_parts(self):
        net = (2, [(0, 1, 1, 1)] * 8, [(0, 0, 1, True)] * 4, [(0, 1)] * 4)
        self.good(net, (tuple(range(8)), (0, 1, 2, 3), (0, 1, 2, 3)))
        self.bad(net, (tuple(range(9)), (0, 1, 2, 3), (0, 1, 2, 3)))
        self.bad(net, (tuple(range(8)), (0, 1, 2, 3, 4), (0, 1, 2, 3)))
        self.bad(net, (tuple(range(8)), (0, 1, 2, 3), (0, 1, 2, 3, 4)))

    def test_dark_state(self):
        for net in (self.net, self.turned, self.empty):
            self.good(net, ((), (), ()))

    def test_net_without_lines_stations_and_loads(self):
        for at in range(3):
            for index in (0, 1, -1):
                state = [(), (), ()]
                state[at] = (index,)
                self.bad(self.empty, tuple(state))

    def test_one_of_the_lists_is_empty(self):
        lines, stations, loads = self.net[1:]
        self.bad((3, [], stations, loads), ((0,), (), ()))
        self.bad((3, lines, [], loads), ((), (0,), ()))
        self.bad((3, lines, stations, []), ((), (), (0,)))
        self.good((3, [], stations, loads), ((), (0, 1, 2), (0, 1)))
        self.good((3, lines, [], loads), ((0, 1, 2, 3), (), (0, 1)))
        self.good((3, lines, stations, []), ((0, 1, 2, 3), (0, 1, 2), ()))

    def test_index_that_does_not_exist(self):
        for net in (self.net, self.turned):
            for at in range(3):
                many = len(net[at + 1])
                parts = [(many,), (many + 1,), (HUGE,), (0, many), tuple(range(many + 1))]
                for part in parts:
                    state = [(), (), ()]
                    state[at] = part
                    self.bad(net, tuple(state))

    def test_index_below_zero(self):
        for at in range(3):
            for part in ((-1,), (-2,), (-1, 0), (-1, 0, 1), (0, -1), (-HUGE,)):
                self.bad_part(part, at)

    def test_index_twice(self):
        for at in range(3):
            for part in ((0, 0), (1, 1), (0, 0, 1), (0, 1, 1), (0, 1, 0)):
                self.bad_part(part, at)

    def test_two_indexes_out_of_order(self):
        for at in range(3):
            self.bad_part((1, 0), at)
        self.bad(self.net, ((0, 2, 1), (), ()))
        self.bad(self.net, ((1, 0, 2), (), ()))
        self.bad(self.net, ((3, 2, 1, 0), (), ()))
        self.bad(self.net, ((), (0, 2, 1), ()))
        self.bad(self.net, ((), (1, 0, 2), ()))
        self.bad(self.turned, ((), (), (0, 1, 3, 2)))
        self.bad(self.turned, ((), (), (1, 0, 2)))


class FullTest(unittest.TestCase):
    net = StateTest.net
    turned = StateTest.turned

    def test_full_if_all_loads_are_fed_and_only_then(self):
        for net in (self.net, self.turned):
            for closed in all_parts(len(net[1])):
                for running in all_parts(len(net[2])):
                    for fed in all_parts(len(net[3])):
                        state = (closed, running, fed)
                        wanted = set(fed) == set(range(len(net[3])))
                        with self.subTest(net=net, state=state):
                            self.assertIs(assert_unchanged(self, is_full, net, state), wanted)

    def test_net_without_loads(self):
        net = (2, [(0, 1, 1, 1)], [(0, 0, 1, True)], [])
        for state in (((), (), ()), ((0,), (), ()), ((), (0,), ()), ((0,), (0,), ())):
            self.assertIs(is_full(net, state), True)

    def test_net_of_one_load(self):
        net = (1, [], [(0, 0, 1, True)], [(0, 1)])
        self.assertIs(is_full(net, ((), (0,), ())), False)
        self.assertIs(is_full(net, ((), (0,), (0,))), True)
        self.assertIs(is_full(net, ((), (), (0,))), True)

    def test_net_of_four_loads(self):
        net = (1, [], [], [(0, 1)] * 4)
        self.assertIs(is_full(net, ((), (), (0, 1, 2))), False)
        self.assertIs(is_full(net, ((), (), (1, 2, 3))), False)
        self.assertIs(is_full(net, ((), (), (3,))), False)
        self.assertIs(is_full(net, ((), (), (0, 1, 2, 3))), True)

    def test_a_list_that_is_changed_later_is_looked_at_again(self):
        net = copy.deepcopy(self.net)
        state = ((), (), (0, 1))
        self.assertIs(is_full(net, state), True)
        net[3].append((0, 1))
        self.assertIs(is_full(net, state), False)


if __name__ == "__main__":
    unittest.main()
