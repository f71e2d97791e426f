"""Promises 2 and 5: the islands of a state, and which are lit."""

import copy
import unittest

from relume.islands import is_lit, islands_of
from tests.helper import all_parts, assert_unchanged, wanted_islands


def line(a, b):
    return (a, b, 7, 3)


def station(node):
    return (node, 0, 10, False)


NETS = [
    (1, [], [station(0)], [(0, 1)]),
    (2, [line(0, 1)] * 3, [station(1), station(0)], []),
    # a chain whose lines are not in the order of their nodes
    (8, [line(6, 7), line(0, 1), line(4, 5), line(2, 3), line(5, 6), line(1, 2), line(3, 4)],
     [station(7), station(3)], []),
    # a ring
    (8, [line(k, k + 1) for k in range(7)] + [line(0, 7)], [station(4)], [(2, 5)]),
    # lines that join far nodes first
    (8, [line(3, 7), line(1, 3), line(2, 6), line(0, 6), line(0, 2), line(4, 5), line(1, 7)],
     [station(6), station(5), station(1)], []),
    # a star, with its middle last
    (8, [line(k, 7) for k in range(6, -1, -1)], [station(7)], []),
    # two rings that one line joins, and two lines between the same nodes
    (6, [line(3, 5), line(0, 2), line(4, 5), line(0, 1), line(3, 4), line(1, 2), line(2, 3),
         line(2, 3)], [station(0), station(5), station(5), station(2)], [(0, 1)]),
]


class IslandsTest(unittest.TestCase):
    def islands(self, net, closed, wanted):
        for running in all_parts(len(net[2])):
            for fed in all_parts(len(net[3])):
                state = (closed, running, fed)
                with self.subTest(net=net, state=state):
                    self.assertEqual(assert_unchanged(self, islands_of, net, state), wanted)

    def test_single_nodes(self):
        for nodes in range(1, 9):
            self.islands((nodes, [], [], []), (), [[k] for k in range(nodes)])

    def test_no_line_is_closed(self):
        for net in NETS:
            self.islands(net, (), [[k] for k in range(net[0])])

    def test_one_line(self):
        net = (4, [line(0, 1), line(1, 3), line(0, 3)], [], [])
        self.islands(net, (0,), [[0, 1], [2], [3]])
        self.islands(net, (1,), [[0], [1, 3], [2]])
        self.islands(net, (2,), [[0, 3], [1], [2]])

    def test_chain(self):
        net = NETS[2]
        self.islands(net, tuple(range(7)), [list(range(8))])
        self.islands(net, (0, 1, 2, 3), [[0, 1], [2, 3], [4, 5], [6, 7]])
        self.islands(net, (0, 1, 2, 3, 5), [[0, 1, 2, 3], [4, 5], [6, 7]])
        self.islands(net, (0, 1, 2, 3, 4, 5), [[0, 1, 2, 3], [4, 5, 6, 7]])
        self.islands(net, (6,), [[0], [1], [2], [3, 4], [5], [6], [7]])

    def test_ring(self):
        net = NETS[3]
        self.islands(net, tuple(range(8)), [list(range(8))])
        for k in range(8):
            closed = tuple(other for other in range(8) if other != k)
            self.islands(net, closed, [list(range(8))])
        self.islands(net, (0, 1, 2, 4, 5, 6), [[0, 1, 2, 3], [4, 5, 6, 7]])
        self.islands(net, (0, 2, 4, 6), [[0, 1], [2, 3], [4, 5], [6, 7]])
        self.islands(net, (1, 3, 5, 7), [[0, 7], [1, 2], [3, 4], [5, 6]])

    def test_several_lines_between_the_same_nodes(self):
        net = NETS[1]
        self.islands(net, (), [[0], [1]])
        for closed in ((0,), (1,), (2,), (0, 1), (1, 2), (0, 2), (0, 1, 2)):
            self.islands(net, closed, [[0, 1]])

    def test_line_whose_limit_is_zero_joins(self):
        self.islands((2, [(0, 1, 1, 0)], [], []), (0,), [[0, 1]])

    def test_joined_only_by_way_of_others(self):
        net = (5, [line(1, 4), line(2, 3), line(3, 4)], [], [])
        self.islands(net, (0, 1, 2), [[0], [1, 2, 3, 4]])
        self.islands(net, (0, 1), [[0], [1, 4], [2, 3]])
        self.islands(net, (0, 2), [[0], [1, 3, 4], [2]])
        self.islands(net, (1, 2), [[0], [1], [2, 3, 4]])

    def test_order_is_by_least_nodes(self):
        net = (8, [line(4, 6), line(2, 5), line(1, 3), line(0, 7)], [], [])
        self.islands(net, (0, 1, 2, 3), [[0, 7], [1, 3], [2, 5], [4, 6]])
        net = (6, [line(0, 5), line(4, 5), line(1, 2)], [], [])
        self.islands(net, (0, 1, 2), [[0, 4, 5], [1, 2], [3]])

    def test_all_states_of_the_nets(self):
        for net in NETS:
            for closed in all_parts(len(net[1])):
                wanted = wanted_islands(net, closed)
                with self.subTest(net=net, closed=closed):
                    self.assertEqual(islands_of(net, (closed, (), ())), wanted)

    def test_kinds_of_values(self):
        for net in NETS:
            found = islands_of(net, (tuple(range(len(net[1]))), (), ()))
            self.assertIs(type(found), list)
            for island in found:
                self.assertIs(type(island), list)
                for node in island:
                    self.assertIs(type(node), int)


class NewListsTest(unittest.TestCase):
    net = (5, [line(0, 3), line(1, 4)], [station(4)], [(1, 2)])
    state = ((0, 1), (0,), ())
    wanted = [[0, 3], [1, 4], [2]]

    def test_returned_lists_may_be_changed(self):
        first = islands_of(self.net, self.state)
        first[0].append(9)
        first[1].clear()
        first[2][0] = 7
        del first[1:]
        self.assertEqual(islands_of(self.net, self.state), self.wanted)
        self.assertEqual(self.net, (5, [line(0, 3), line(1, 4)], [station(4)], [(1, 2)]))

    def test_a_change_of_one_answer_does_not_change_another_one(self):
        first = islands_of(self.net, self.state)
        second = islands_of(self.net, self.state)
        first[0].append(9)
        first.append([5])
        self.assertEqual(second, self.wanted)

    def test_no_list_occurs_twice(self):
        for net in NETS:
            for closed in all_parts(len(net[1])):
                found = islands_of(net, (closed, (), ()))
                places = [id(found)] + [id(island) for island in found]
                self.assertEqual(len(set(places)), len(places))

    def test_later_changes_of_passed_lists_do_not_change_the_answer(self):
        net = copy.deepcopy(self.net)
        found = islands_of(net, self.state)
        net[1][0] = line(0, 2)
        self.assertEqual(found, self.wanted)
        net[1].clear()
        self.assertEqual(found, self.wanted)

    def test_a_list_that_is_changed_later_is_looked_at_again(self):
        net = copy.deepcopy(self.net)
        self.assertEqual(islands_of(net, self.state), self.wanted)
        self.assertIs(is_lit(net, self.state, [1, 4]), True)
        net[1][0] = line(0, 2)
        net[2][0] = station(2)
        self.assertEqual(islands_of(net, self.state), [[0, 2], [1, 4], [3]])
        self.assertIs(is_lit(net, self.state, [1, 4]), False)
        self.assertIs(is_lit(net, self.state, [0, 2]), True)


class LitTest(unittest.TestCase):
    def lit(self, net, state, wanted):
        """Check each island of the state: wanted tells, in order, which are lit."""
        found = []
        for island in islands_of(net, state):
            answer = assert_unchanged(self, is_lit, net, state, island)
            self.assertIs(type(answer), bool)
            found.append(answer)
        with self.subTest(net=net, state=state):
            self.assertEqual(found, wanted)

    def test_one_node(self):
        net = (1, [], [station(0)], [])
        self.lit(net, ((), (), ()), [False])
        self.lit(net, ((), (0,), ()), [True])

    def test_no_stations(self):
        self.lit((3, [line(0, 1)], [], [(0, 1)]), ((0,), (), (0,)), [False, False])

    def test_only_the_island_of_the_running_station_is_lit(self):
        net = (5, [line(0, 3), line(1, 4)], [station(4), station(3), station(2)], [])
        self.lit(net, ((), (), ()), [False] * 5)
        self.lit(net, ((), (0,), ()), [False, False, False, False, True])
        self.lit(net, ((0, 1), (), ()), [False, False, False])
        self.lit(net, ((0, 1), (0,), ()), [False, True, False])
        self.lit(net, ((0, 1), (1,), ()), [True, False, False])
        self.lit(net, ((0, 1), (2,), ()), [False, False, True])
        self.lit(net, ((0, 1), (0, 1), ()), [True, True, False])
        self.lit(net, ((0, 1), (0, 1, 2), ()), [True, True, True])

    def test_an_open_line_does_not_pass_the_light_on(self):
        net = (2, [line(0, 1)], [station(0)], [])
        self.lit(net, ((), (0,), ()), [True, False])
        self.lit(net, ((0,), (0,), ()), [True])

    def test_several_stations_at_a_node(self):
        net = (2, [], [station(1), station(1), station(0), station(1)], [])
        self.lit(net, ((), (0,), ()), [False, True])
        self.lit(net, ((), (1,), ()), [False, True])
        self.lit(net, ((), (2,), ()), [True, False])
        self.lit(net, ((), (3,), ()), [False, True])
        self.lit(net, ((), (1, 3), ()), [False, True])
        self.lit(net, ((), (2, 3), ()), [True, True])

    def test_whether_it_begins_by_itself_does_not_matter(self):
        net = (2, [], [(0, 0, 5, True), (1, 0, 5, False)], [])
        self.lit(net, ((), (), ()), [False, False])
        self.lit(net, ((), (0,), ()), [True, False])
        self.lit(net, ((), (1,), ()), [False, True])

    def test_a_station_without_output_lights_its_island(self):
        self.lit((1, [], [(0, 0, 0, False)], []), ((), (0,), ()), [True])

    def test_loads_do_not_light(self):
        net = (2, [line(0, 1)], [station(0)], [(1, 5)])
        self.lit(net, ((0,), (), (0,)), [False])
        self.lit(net, ((), (), (0,)), [False, False])
        self.lit(net, ((), (0,), (0,)), [True, False])

    def test_an_island_need_not_be_feasible_to_be_lit(self):
        net = (1, [], [(0, 5, 6, True)], [(0, 1000)])
        self.lit(net, ((), (0,), (0,)), [True])

    def test_all_states_of_the_nets(self):
        for net in NETS:
            for closed in all_parts(len(net[1])):
                islands = wanted_islands(net, closed)
                for running in all_parts(len(net[2])):
                    nodes = {net[2][k][0] for k in running}
                    wanted = [bool(nodes & set(island)) for island in islands]
                    state = (closed, running, ())
                    found = [is_lit(net, state, island) for island in islands]
                    if found != wanted:
                        self.fail(f"{net} {state}: {found}, not {wanted}")


if __name__ == "__main__":
    unittest.main()
