"""What several test files share."""

import copy
from itertools import combinations


def all_parts(many):
    """Return all tuples of ascending indexes below many."""
    return [part for size in range(many + 1) for part in combinations(range(many), size)]


def assert_unchanged(case, function, *arguments):
    """Call the function, and check that its arguments stay as they were; return the answer."""
    before = copy.deepcopy(arguments)
    answer = function(*arguments)
    case.assertEqual(arguments, before)
    return answer


def assert_unchanged_when_raised(case, error, function, *arguments):
    """Check that the function raises the error itself, and that its arguments stay as they were."""
    before = copy.deepcopy(arguments)
    with case.assertRaises(error) as caught:
        function(*arguments)
    case.assertIs(type(caught.exception), error)
    case.assertEqual(arguments, before)
