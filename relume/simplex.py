"""Conditions on unknowns: unknowns that satisfy them, or integers that show that there are none.

A goal is a list with an integer for each unknown; its value is the sum of them
times the unknowns.
"""

from math import gcd

from relume.errors import OutOfRange
from relume.ratios import is_ratio, on_one_low, ratio


def solve(conditions, count):
    """Return the answer for the conditions on so many unknowns."""
    check_conditions(conditions, count)
    table = Table(conditions, count)
    at = table.hopeless_row()
    if at is not None:
        return ("no", table.integers(at))
    return ("yes", table.unknowns())


def solve_least(conditions, goal):
    """Return "least", the least value of the goal, unknowns that have it, and weights; or as solve.

    Each weight is a fraction of at least 0 for a condition; the sum of the
    conditions, each times its weight, is the goal less its least value. The
    conditions must leave each unknown only one value if all of their values are
    known, and let the goal not fall for ever.
    """
    table = Table(conditions, len(goal))
    at = table.hopeless_row()
    if at is not None:
        return ("no", table.integers(at))
    row = table.lacking_row(goal)
    column = table.helping_column(row)
    while column is not None:
        table.exchange(table.binding_row(column), column)
        row = table.lacking_row(goal)
        column = table.helping_column(row)
    weights = [ratio(number, table.low) for number in table.shares(row)]
    return ("least", ratio(-row[0], table.low), table.unknowns(), weights)


def check_conditions(conditions, count):
    """Raise OutOfRange unless each condition has an integer more than there are unknowns."""
    if count < 0:
        raise OutOfRange("the number of unknowns is below 0")
    for condition in conditions:
        if len(condition) != count + 1:
            raise OutOfRange(f"a condition has not {count + 1} integers")


class Table:
    """Equations that tell some of the variables by the others.

    The variable k is the value of the condition k, which must not be below 0;
    behind these variables come the unknowns. A row stands for one equation: low
    times the variable that it tells is its first integer plus the sum of its
    other integers times the variables of their columns. While the variables of
    the columns are 0, the first integers are the values of the others.
    """

    def __init__(self, conditions, count):
        self.many = len(conditions)
        self.count = count
        self.low = 1
        self.rows = [list(condition) for condition in conditions]
        self.told = list(range(self.many))
        # No variable is called -1: the first integers of the rows stand alone.
        self.outer = [-1] + list(range(self.many, self.many + count))

    def exchange(self, at, column):
        """Let the row tell the variable of the column, which gets that of the row instead."""
        used = self.rows[at]
        # The low stays above 0, so the signs of the first integers are those of the values.
        sign = 1 if used[column] > 0 else -1
        rows = [without(row, used, column, self.low, sign) for row in self.rows]
        rows[at] = [-sign * number for number in used]
        rows[at][column] = sign * self.low
        self.rows = rows
        self.low = sign * used[column]
        self.told[at], self.outer[column] = self.outer[column], self.told[at]

    def tell_unknowns(self):
        """Let a row tell each unknown, if one of the rows of conditions contains it."""
        for column in range(1, self.count + 1):
            # The conditions of an island end with its equations, which narrow most.
            for at in reversed(range(self.many)):
                if self.told[at] < self.many and self.rows[at][column] != 0:
                    self.exchange(at, column)
                    break

    def hopeless_row(self):
        """Exchange until all conditions hold, and return None, or until no column helps a row, and return that."""
        self.tell_unknowns()
        at = self.failing_row()
        while at is not None:
            column = self.helping_column(self.rows[at])
            if column is None:
                return at
            self.exchange(at, column)
            at = self.failing_row()
        return None

    def failing_row(self):
        """Return the row of the least condition that does not hold, or None."""
        failing = [(self.told[at], at) for at, row in enumerate(self.rows)
                   if self.told[at] < self.many and row[0] < 0]
        return min(failing)[1] if failing else None

    def helping_column(self, row):
        """Return the column of the least condition whose value raises that of the row, or None."""
        # To take the least ones, here and for the rows, is Bland's rule: no table comes again.
        helping = [(variable, column) for column, variable in enumerate(self.outer)
                   if 0 <= variable < self.many and row[column] > 0]
        return min(helping)[1] if helping else None

    def binding_row(self, column):
        """Return the row of the least condition which fails first while the variable of the column grows."""
        binding = sorted([(variable, at) for at, variable in enumerate(self.told)
                          if variable < self.many and self.rows[at][column] < 0])
        first = binding[0][1]
        for _, at in binding:
            row = self.rows[at]
            if row[0] * self.rows[first][column] > self.rows[first][0] * row[column]:
                first = at
        return first

    def lacking_row(self, goal):
        """Return the row of a variable that is minus the goal; all unknowns are told by rows."""
        told = dict(zip(self.told, self.rows))
        lacking = [0] * len(self.outer)
        for at, times in enumerate(goal):
            row = told[self.many + at]
            lacking = [mine - times * number for mine, number in zip(lacking, row)]
        return lacking

    def shares(self, row):
        """Return, for each condition, how much of it must be added to the row so that it falls out of it."""
        found = [0] * self.many
        for variable, number in zip(self.outer, row):
            # An unknown that is still outside has only zeros in the rows of conditions.
            if 0 <= variable < self.many:
                found[variable] = -number
        return found

    def integers(self, at):
        """Return the integers that a failing row shows which no column helps."""
        found = self.shares(self.rows[at])
        found[self.told[at]] = self.low
        return without_divisor(found)

    def unknowns(self):
        """Return the values of the unknowns while the variables of the columns are 0."""
        found = [(0, 1)] * self.count
        for variable, row in zip(self.told, self.rows):
            if variable >= self.many:
                found[variable - self.many] = ratio(row[0], self.low)
        return found


def without(row, used, column, low, sign):
    """Return the row after the variable of the column is put in as the used row tells it."""
    part = row[column]
    pivot = used[column]
    # All numbers of a table are minors of the conditions, so the division leaves no rest.
    new = [sign * ((pivot * mine - part * other) // low) for mine, other in zip(row, used)]
    new[column] = sign * part
    return new


def without_divisor(integers):
    """Return the integers, which are not all 0, less their greatest common divisor."""
    common = 0
    for number in integers:
        common = gcd(common, number)
    return [number // common for number in integers]


def are_satisfied(conditions, unknowns):
    """Tell whether the fractions satisfy all conditions."""
    tops, low = on_one_low(unknowns)
    for condition in conditions:
        total = condition[0] * low
        for number, top in zip(condition[1:], tops):
            total += number * top
        if total < 0:
            return False
    return True


def are_refuted(conditions, integers):
    """Tell whether the conditions, one at least, each times its integer, add up to a number below 0."""
    if len(integers) != len(conditions) or min(integers) < 0:
        return False
    sums = summed(conditions, integers)
    return sums[0] < 0 and not any(sums[1:])


def are_weights(conditions, goal, value, weights):
    """Tell whether the fractions show that no unknowns make the goal less than the value, a fraction."""
    if len(weights) != len(conditions):
        return False
    for weight in weights:
        if not is_ratio(weight) or weight[0] < 0:
            return False
    tops, low = on_one_low(weights)
    sums = summed(conditions, tops)
    return sums[0] * value[1] == -value[0] * low and sums[1:] == [low * number for number in goal]


def summed(conditions, integers):
    """Return the sum of the conditions, one at least, each times its integer."""
    sums = [0] * len(conditions[0])
    for condition, times in zip(conditions, integers):
        sums = [total + times * number for total, number in zip(sums, condition)]
    return sums
