"""Promises 2, 9 and 10: conditions on unknowns, and the two answers."""

import unittest
from fractions import Fraction
from itertools import product
from math import gcd
from random import Random

from relume.errors import OutOfRange
from relume.simplex import solve
from tests.helper import (assert_fresh, assert_plain, assert_unchanged, assert_unchanged_when_raised,
                          is_lowest, proves_none)

HUGE = 10 ** 40


def holds(condition, unknowns):
    total = condition[0] + sum(number * Fraction(*pair) for number, pair in zip(condition[1:], unknowns))
    return total >= 0


def equal(first, *others):
    """Return the two conditions that together say that the sum is 0."""
    condition = [first, *others]
    return [condition, [-number for number in condition]]


class SolveCase(unittest.TestCase):
    def right(self, conditions, count):
        """Check the answer by what promise 10 asks of it; return it."""
        answer = assert_unchanged(self, solve, conditions, count)
        self.assertIs(type(answer), tuple)
        self.assertEqual(len(answer), 2)
        self.assertIs(type(answer[1]), list)
        assert_plain(self, answer)
        if answer[0] == "yes":
            self.assertEqual(len(answer[1]), count)
            self.assertTrue(all(is_lowest(pair) for pair in answer[1]), answer)
            for condition in conditions:
                self.assertTrue(holds(condition, answer[1]), (conditions, answer))
        else:
            self.assertEqual(answer[0], "no")
            self.assertTrue(proves_none(conditions, answer[1]), (conditions, answer))
            self.assertEqual(gcd(*answer[1]), 1)
        return answer

    def yes(self, conditions, count):
        answer = self.right(conditions, count)
        self.assertEqual(answer[0], "yes", conditions)
        return answer[1]

    def no(self, conditions, count):
        answer = self.right(conditions, count)
        self.assertEqual(answer[0], "no", conditions)
        return answer[1]


class PlainTest(SolveCase):
    def test_no_conditions(self):
        for count in (0, 1, 2, 11, 30):
            self.yes([], count)

    def test_no_unknowns(self):
        self.assertEqual(solve([], 0), ("yes", []))
        self.assertEqual(solve([[0]], 0), ("yes", []))
        self.assertEqual(solve([[5], [0], [HUGE]], 0), ("yes", []))
        self.assertEqual(solve([[-1]], 0), ("no", [1]))
        self.assertEqual(solve([[-6]], 0), ("no", [1]))
        self.assertEqual(solve([[0], [-4], [3]], 0), ("no", [0, 1, 0]))
        self.no([[-4], [-6], [2]], 0)

    def test_conditions_without_their_unknowns(self):
        self.yes([[0, 0, 0]], 2)
        self.yes([[7, 0, 0], [0, 0, 0]], 2)
        self.assertEqual(self.no([[-7, 0, 0]], 2), [1])
        self.assertEqual(self.no([[0, 1, 0], [-1, 0, 0], [3, 0, 1]], 2), [0, 1, 0])

    def test_one_bound(self):
        self.assertGreaterEqual(Fraction(*self.yes([[-3, 1]], 1)[0]), 3)
        self.assertLessEqual(Fraction(*self.yes([[-3, -1]], 1)[0]), -3)
        self.assertGreaterEqual(Fraction(*self.yes([[-3, 2]], 1)[0]), Fraction(3, 2))

    def test_two_bounds_that_meet(self):
        self.assertEqual(self.yes([[-3, 1], [3, -1]], 1), [(3, 1)])
        self.assertEqual(self.yes([[3, 1], [-3, -1]], 1), [(-3, 1)])
        self.assertEqual(self.yes([[0, 1], [0, -1]], 1), [(0, 1)])
        self.assertEqual(self.yes([[0, -5], [0, 7]], 1), [(0, 1)])
        self.assertEqual(self.yes([[-4, 6], [2, -3]], 1), [(2, 3)])
        self.assertEqual(self.yes([[4, 6], [-2, -3]], 1), [(-2, 3)])

    def test_two_bounds_that_contradict_each_other(self):
        self.assertEqual(self.no([[-1, 1], [0, -1]], 1), [1, 1])
        self.assertEqual(self.no([[-1, 2], [0, -3]], 1), [3, 2])
        self.assertEqual(self.no([[0, -3], [-1, 2]], 1), [2, 3])
        self.assertEqual(self.no([[-2, 1], [1, -1]], 1), [1, 1])
        self.assertEqual(self.no([[-HUGE - 1, 1], [HUGE, -1]], 1), [1, 1])

    def test_told_integers_have_no_common_divisor(self):
        self.assertEqual(self.no([[-2, 4], [0, -6]], 1), [3, 2])
        self.assertEqual(self.no([[-6, 10], [1, -15]], 1), [3, 2])
        self.assertEqual(self.no([[-100, 100], [0, -100]], 1), [1, 1])
        self.assertEqual(self.no([[-7, 12, 0], [0, -18, 6], [0, 0, -30]], 2), [15, 10, 2])
        self.assertEqual(self.no([[-30]], 0), [1])

    def test_only_one_list_of_integers_up_to_a_factor(self):
        # x >= 1, y >= 2, x + y <= 2, and one condition that does not matter
        self.assertEqual(self.no([[-1, 1, 0], [-2, 0, 1], [5, 1, -1], [2, -1, -1]], 2), [1, 1, 0, 1])
        # x >= y + 1, y >= z + 1, z >= x + 1
        self.assertEqual(self.no([[-1, 1, -1, 0], [-1, 0, 1, -1], [-1, -1, 0, 1]], 3), [1, 1, 1])

    def test_equations(self):
        self.assertEqual(self.yes(equal(-1, 3), 1), [(1, 3)])
        self.assertEqual(self.yes(equal(1, 3), 1), [(-1, 3)])
        self.assertEqual(self.yes(equal(-2, 4), 1), [(1, 2)])
        self.assertEqual(self.yes(equal(-10, 5), 1), [(2, 1)])
        # x + y = 3, x - y = 4
        self.assertEqual(self.yes(equal(-3, 1, 1) + equal(-4, 1, -1), 2), [(7, 2), (-1, 2)])
        # an equation that stands there three times
        self.assertEqual(self.yes(equal(-1, 3) + equal(-2, 6) + equal(1, -3), 1), [(1, 3)])

    def test_equations_that_contradict_each_other(self):
        self.no(equal(-3, 1, 1) + equal(-4, 1, 1), 2)
        self.no(equal(-3, 1, 1) + equal(-7, 2, 2), 2)
        self.no(equal(-1, 0, 0), 2)

    def test_equation_that_a_bound_rules_out(self):
        # x + y = 1, x >= 1, y >= 0 meet in one point; y >= 1 rules it out
        both = equal(-1, 1, 1)
        self.assertEqual(self.yes(both + [[-1, 1, 0], [0, 0, 1]], 2), [(1, 1), (0, 1)])
        self.no(both + [[-1, 1, 0], [-1, 0, 1]], 2)

    def test_an_unknown_that_no_condition_names(self):
        found = self.yes(equal(-1, 0, 2, 0), 3)
        self.assertEqual(found[1], (1, 2))
        self.assertEqual(self.no([[-1, 0, 1, 0], [0, 0, -1, 0]], 3), [1, 1])

    def test_unknowns_may_be_below_zero(self):
        self.assertLessEqual(Fraction(*self.yes([[-5, -1]], 1)[0]), -5)
        self.assertEqual(self.yes(equal(HUGE, 1), 1), [(-HUGE, 1)])

    def test_great_numbers(self):
        found = self.yes(equal(-HUGE, HUGE + 1), 1)
        self.assertEqual(found, [(HUGE, HUGE + 1)])
        self.yes([[-HUGE, HUGE, 1], [-1, -1, HUGE], [HUGE * HUGE, -1, -1]], 2)
        self.no([[-HUGE, HUGE, 1], [0, -HUGE, -1]], 2)

    def test_the_same_condition_many_times(self):
        self.yes([[-2, 1]] * 20, 1)
        answer = self.no([[-2, 1]] * 5 + [[1, -1]] * 5, 1)
        self.assertEqual(sum(answer[:5]), sum(answer[5:]))

    def test_a_point_that_just_remains_and_one_that_does_not(self):
        # the unknowns from 0 to 1, and their sum at least their number
        for count in range(1, 12):
            box = []
            for at in range(count):
                row = [int(k == at) for k in range(count)]
                box += [[0] + row, [1] + [-number for number in row]]
            total = [1] * count
            self.assertEqual(self.yes(box + [[-count] + total], count), [(1, 1)] * count)
            wanted = [0, 1] * count + [1]
            self.assertEqual(self.no(box + [[-count - 1] + total], count), wanted)


class WrongTest(unittest.TestCase):
    def wrong(self, conditions, count):
        with self.subTest(conditions=conditions, count=count):
            assert_unchanged_when_raised(self, OutOfRange, solve, conditions, count)

    def test_count_below_zero(self):
        for count in (-1, -2, -HUGE):
            self.wrong([], count)
            self.wrong([[]], count)
            self.wrong([[1]], count)

    def test_conditions_of_another_length(self):
        self.wrong([[]], 0)
        self.wrong([[1, 0]], 0)
        self.wrong([[1]], 1)
        self.wrong([[1, 2, 3]], 1)
        self.wrong([[1, 2], [1, 2]], 2)
        self.wrong([[1, 2, 3, 4]], 2)
        self.wrong([[]], 5)

    def test_one_of_several_conditions_is_of_another_length(self):
        good = [[1, 2, 3], [-1, 0, 1], [0, 0, 0]]
        solve(good, 2)
        for bad in ([], [1], [1, 2], [1, 2, 3, 4], [0, 0, 0, 0, 0]):
            for at in range(4):
                self.wrong(good[:at] + [bad] + good[at:], 2)

    def test_also_if_the_others_contradict_each_other(self):
        self.wrong([[-1, 1], [0, -1], [1]], 1)
        self.wrong([[-1], [1, 0]], 0)


class ManyTest(SolveCase):
    def test_all_small_bounds_on_one_unknown(self):
        rows = [list(row) for row in product((-2, -1, 0, 1, 2), (-2, -1, 0, 1))]
        for conditions in product(rows, repeat=2):
            conditions = list(conditions)
            # A solution, if there is one, is at some bound, or anywhere if there is no bound.
            points = [Fraction(0)] + [Fraction(-a, b) for a, b in conditions if b]
            wanted = any(all(a + b * x >= 0 for a, b in conditions) for x in points)
            answer = self.right(conditions, 1)
            self.assertEqual(answer[0] == "yes", wanted, conditions)

    def test_small_conditions(self):
        random = Random(1)
        told = {"yes": 0, "no": 0}
        for _ in range(3000):
            count = random.randint(0, 4)
            numbers = random.choice([(-1, 0, 1), (-3, -2, -1, 0, 1, 2, 3), (0, 0, 0, 1, -1, 2)])
            conditions = [[random.choice(numbers) for _ in range(count + 1)]
                          for _ in range(random.randint(0, 8))]
            told[self.right(conditions, count)[0]] += 1
        self.assertGreater(min(told.values()), 300)

    def test_conditions_that_meet_in_the_origin(self):
        # All first integers are 0 or the like, so that many tables have the same values.
        random = Random(2)
        for _ in range(600):
            count = random.randint(2, 7)
            conditions = [[random.choice((0, 0, 0, 0, -1))]
                          + [random.choice((-1, 0, 1)) for _ in range(count)]
                          for _ in range(random.randint(count, 3 * count))]
            self.right(conditions, count)

    def test_conditions_around_a_point(self):
        random = Random(3)
        for _ in range(300):
            count = random.randint(1, 8)
            low = random.randint(1, 6)
            point = [random.randint(-9, 9) for _ in range(count)]
            conditions = []
            for _ in range(random.randint(1, 3 * count)):
                row = [low * random.randint(-5, 5) for _ in range(count)]
                first = -sum(number * top for number, top in zip(row, point)) // low
                conditions.append([first + random.choice((0, 0, 1))] + row)
            random.shuffle(conditions)
            self.yes(conditions, count)
            # One condition less than a sum of the others cannot hold too.
            times = [random.randint(0, 3) for _ in conditions]
            sums = [sum(t * number for t, number in zip(times, column)) for column in zip(*conditions)]
            against = [-number for number in sums]
            against[0] -= 1
            at = random.randint(0, len(conditions))
            self.no(conditions[:at] + [against] + conditions[at:], count)

    def test_equations_and_bounds(self):
        random = Random(4)
        for _ in range(200):
            count = random.randint(1, 8)
            point = [random.randint(-20, 20) for _ in range(count)]
            conditions = []
            for _ in range(random.randint(1, count)):
                row = [random.randint(-9, 9) for _ in range(count)]
                conditions += equal(-sum(a * b for a, b in zip(row, point)), *row)
            for at in range(count):
                row = [int(k == at) for k in range(count)]
                conditions.append([random.randint(0, 2) - point[at]] + row)
                conditions.append([random.randint(0, 2) + point[at]] + [-number for number in row])
            self.right(conditions, count)

    def test_as_many_conditions_and_unknowns_as_the_greatest_islands_have(self):
        random = Random(5)
        told = {"yes": 0, "no": 0}
        for _ in range(40):
            conditions = [[random.randint(-300, 1000)] + [random.randint(-1000, 1000) for _ in range(11)]
                          for _ in range(random.choice((20, 30, 40)))]
            told[self.right(conditions, 11)[0]] += 1
        self.assertGreater(min(told.values()), 3)

    def test_beale_and_his_kin(self):
        # Examples on which careless rules turn in a circle, as conditions.
        rows = [[0, -1, 32, 4, -36], [0, -1, 24, 1, -6], [1, 0, 0, -1, 0],
                [0, 1, 0, 0, 0], [0, 0, 1, 0, 0], [0, 0, 0, 1, 0], [0, 0, 0, 0, 1]]
        goal = [0, 3, -80, 2, -24]
        self.yes(rows + [[-5] + goal[1:]], 4)
        self.no(rows + [[-6] + goal[1:]], 4)


class ListsTest(unittest.TestCase):
    def test_returned_lists_are_new(self):
        for conditions, count in (([[-1, 1], [0, -1]], 1), ([[0, 1], [0, -1]], 1), ([], 3), ([], 0),
                                  ([[-1]], 0)):
            assert_fresh(self, solve, conditions, count)

    def test_the_same_list_twice_among_the_conditions(self):
        row = [-1, 1]
        self.assertEqual(assert_fresh(self, solve, [row, row, [1, -1]], 1), ("yes", [(1, 1)]))

    def test_later_changes_of_passed_lists_have_no_effect(self):
        conditions = [[-1, 1], [1, -1]]
        found = solve(conditions, 1)
        conditions[0][0] = -5
        self.assertEqual(found, ("yes", [(1, 1)]))
        self.assertEqual(solve(conditions, 1), ("no", [1, 1]))


if __name__ == "__main__":
    unittest.main()
