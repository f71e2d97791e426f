"""What several test files share: checks, and the document's words written down a second time."""

import copy
from fractions import Fraction
from itertools import combinations
from math import gcd

from relume.dispatch import run_island

DARK = ((), (), ())


def all_parts(many):
    """Return all tuples of ascending indexes below many."""
    return [part for size in range(many + 1) for part in combinations(range(many), size)]


def all_states(net):
    """Return all states of the net."""
    return [(closed, running, fed) for closed in all_parts(len(net[1]))
            for running in all_parts(len(net[2])) for fed in all_parts(len(net[3]))]


# Checks of promises 1 and 2.

def assert_unchanged(case, function, *arguments):
    """Call the function, and check that its arguments stay as they were; return the answer."""
    before = copy.deepcopy(arguments)
    answer = function(*arguments)
    case.assertEqual(arguments, before)
    return answer


def assert_unchanged_when_raised(case, error, function, *arguments):
    """Check that the function raises the error itself, and that its arguments stay as they were."""
    before = copy.deepcopy(arguments)
    with case.assertRaises(error) as caught:
        function(*arguments)
    case.assertIs(type(caught.exception), error)
    case.assertEqual(arguments, before)


def lists_in(value):
    """Return the lists that occur in the value, each as often as it occurs."""
    if not isinstance(value, (list, tuple)):
        return []
    found = [value] if isinstance(value, list) else []
    return found + [inner for item in value for inner in lists_in(item)]


def assert_fresh(case, function, *arguments):
    """Check that an answer has new lists, none of them twice, and that changes to it have no effect."""
    answer = assert_unchanged(case, function, *arguments)
    lists = lists_in(answer)
    case.assertEqual(len({id(found) for found in lists}), len(lists))
    passed = {id(found) for found in lists_in(arguments)}
    case.assertFalse([found for found in lists if id(found) in passed])
    before = copy.deepcopy(answer)
    for found in lists:
        found.append("changed")
        found.reverse()
    case.assertEqual(function(*arguments), before)
    return before


def assert_plain(case, value):
    """Check that the value is made of integers, strings, lists and tuples only."""
    if isinstance(value, (list, tuple)):
        case.assertIn(type(value), (list, tuple))
        for item in value:
            assert_plain(case, item)
    else:
        case.assertIn(type(value), (int, str))


def is_lowest(pair):
    """Tell whether the value is a fraction as promise 2 has it."""
    return (type(pair) is tuple and len(pair) == 2 and all(type(part) is int for part in pair)
            and pair[1] >= 1 and gcd(*pair) == 1)


# Part 1: islands.

def reached_nodes(net, closed, start):
    """Walk from one node over closed lines; another way than the program's, to compare with."""
    found = {start}
    todo = [start]
    while todo:
        node = todo.pop()
        for k in closed:
            a, b = net[1][k][:2]
            for here, there in ((a, b), (b, a)):
                if here == node and there not in found:
                    found.add(there)
                    todo.append(there)
    return sorted(found)


def wanted_islands(net, closed):
    """Return the islands that the closed lines make."""
    found = []
    for node in range(net[0]):
        if not any(node in island for island in found):
            found.append(reached_nodes(net, closed, node))
    return found


# Part 2: dispatches and barriers.

def inner_items(net, state, island):
    """Return the closed lines, the running stations and the fed loads of an island, as tuples."""
    lines = [net[1][k] for k in state[0] if net[1][k][0] in island]
    stations = [net[2][k] for k in state[1] if net[2][k][0] in island]
    loads = [net[3][k] for k in state[2] if net[3][k][0] in island]
    return lines, stations, loads


def condition_values(net, state, island, outputs, potentials):
    """Return the values that the conditions of promise 7 say to be at least 0, in its order."""
    lines, stations, loads = inner_items(net, state, island)
    level = dict(zip(island, potentials))
    flows = [strength * (level[a] - level[b]) for a, b, strength, _ in lines]
    values = []
    for station, output in zip(stations, outputs):
        values += [output - station[1], station[2] - output]
    for line, flow in zip(lines, flows):
        values += [line[3] - flow, line[3] + flow]
    for node in island:
        excess = sum(output for station, output in zip(stations, outputs) if station[0] == node)
        excess -= sum(amount for place, amount in loads if place == node)
        excess -= sum(flow for line, flow in zip(lines, flows) if line[0] == node)
        excess += sum(flow for line, flow in zip(lines, flows) if line[1] == node)
        values += [excess, -excess]
    return values


def wanted_conditions(net, state, island):
    """Return the conditions of promise 7, from the values at 0 and at each unknown alone."""
    many = len(inner_items(net, state, island)[1])
    count = many + len(island) - 1

    def values(unknowns):
        return condition_values(net, state, island, unknowns[:many], [0] + unknowns[many:])

    firsts = values([0] * count)
    columns = []
    for at in range(count):
        raised = values([int(k == at) for k in range(count)])
        columns.append([high - low for high, low in zip(raised, firsts)])
    return [list(row) for row in zip(firsts, *columns)]


def proves_dispatch(net, state, island, outputs, potentials):
    """Tell whether the lists are a dispatch, by the words of promise 6."""
    stations = inner_items(net, state, island)[1]
    if len(outputs) != len(stations) or len(potentials) != len(island):
        return False
    if not all(is_lowest(pair) for pair in outputs + potentials):
        return False
    outputs = [Fraction(*pair) for pair in outputs]
    potentials = [Fraction(*pair) for pair in potentials]
    values = condition_values(net, state, island, outputs, potentials)
    return potentials[0] == 0 and min(values) >= 0


def proves_none(conditions, integers):
    """Tell whether the integers show that no unknowns satisfy the conditions (promises 8 and 9)."""
    if len(integers) != len(conditions) or any(number < 0 for number in integers):
        return False
    sums = [sum(times * number for times, number in zip(integers, column))
            for column in zip(*conditions)]
    return bool(sums) and sums[0] < 0 and not any(sums[1:])


PROVED = {}


def proved_feasible(net, state, island):
    """Tell whether the island is feasible, by an answer that is proved here."""
    key = (tuple(island), repr(inner_items(net, state, island)))
    if key not in PROVED:
        answer = run_island(net, state, island)
        if answer[0] == "yes":
            assert proves_dispatch(net, state, island, answer[1], answer[2])
        else:
            assert answer[0] == "no"
            assert proves_none(wanted_conditions(net, state, island), answer[1])
        PROVED[key] = answer[0] == "yes"
    return PROVED[key]


# Part 3: switching and faults.

WORDS = ["close", "open", "begin", "end", "feed", "drop"]


def lit(net, state, island):
    return bool(inner_items(net, state, island)[1])


def wanted_sound(net, state):
    """Tell whether the state is sound, by the words of promise 13."""
    for island in wanted_islands(net, state[0]):
        if not lit(net, state, island):
            if inner_items(net, state, island)[2]:
                return False
        elif not proved_feasible(net, state, island):
            return False
    return True


def wanted_settled(net, state):
    """Return the settled state: first stations stop, then loads are dropped."""
    closed, running, fed = state
    islands = wanted_islands(net, closed)
    stopped = [k for island in islands if lit(net, state, island)
               and not proved_feasible(net, state, island)
               for k in running if net[2][k][0] in island]
    running = tuple(k for k in running if k not in stopped)
    dark = [island for island in islands if not lit(net, (closed, running, fed), island)]
    dropped = [k for island in dark for k in fed if net[3][k][0] in island]
    return (closed, running, tuple(k for k in fed if k not in dropped))


def wanted_step(net, state, step):
    """Return the state after the step, or None if it is not allowed, by the words of promise 14."""
    word, k = step
    at = WORDS.index(word) // 2
    part = set(state[at])
    if k not in range(len(net[at + 1])):
        return None
    if word in ("close", "begin", "feed"):
        if k in part:
            return None
        part.add(k)
    else:
        if k not in part:
            return None
        part.remove(k)
    if word == "begin" and not net[2][k][3]:
        home = [island for island in wanted_islands(net, state[0]) if net[2][k][0] in island]
        if not lit(net, state, home[0]):
            return None
    after = tuple(tuple(sorted(part)) if here == at else state[here] for here in range(3))
    return after if wanted_sound(net, after) else None


def wanted_steps(net, state):
    """Return the allowed steps in the order of promise 14."""
    return [(word, k) for at, word in enumerate(WORDS) for k in range(len(net[at // 2 + 1]))
            if wanted_step(net, state, (word, k)) is not None]


def wanted_fault(net, state, fault):
    """Return the settled state after the fault, or None if it cannot strike (promise 15)."""
    at = ["line", "station"].index(fault[0])
    if fault[1] not in state[at]:
        return None
    part = tuple(k for k in state[at] if k != fault[1])
    return wanted_settled(net, tuple(part if here == at else state[here] for here in range(3)))


def full(net, state):
    return set(state[2]) == set(range(len(net[3])))


def wanted_answers(task, place, step):
    """Return the answers to an allowed step from a place that is not full (promise 16)."""
    net, faults = task
    state, strikes = place
    after = wanted_step(net, state, step)
    found = [(after, strikes)]
    if strikes >= 1 and not full(net, after):
        struck = [wanted_fault(net, after, fault) for fault in faults]
        found += [(blown, strikes - 1) for blown in struck if blown is not None]
    return found


# Part 4: lighting against faults.

def wanted_choices(task, place):
    """Return all places that are reached from the place, each with its steps and their answers."""
    net = task[0]
    steps = {}
    found = {}
    todo = [place]
    while todo:
        here = todo.pop()
        if here in found:
            continue
        found[here] = []
        if not full(net, here[0]):
            if here[0] not in steps:
                steps[here[0]] = wanted_steps(net, here[0])
            for step in steps[here[0]]:
                found[here].append((step, wanted_answers(task, here, step)))
        todo += [answer for _, told in found[here] for answer in told]
    return found


def wanted_ranks(task, choices):
    """Return the ranks of promise 18, number by number."""
    ranks = {place: 0 for place in choices if full(task[0], place[0])}
    number = 1
    while True:
        new = [place for place in choices if place not in ranks
               and any(all(ranks.get(answer, number) <= number - 1 for answer in told)
                       for _, told in choices[place])]
        if not new:
            return ranks
        ranks.update({place: number for place in new})
        number += 1


def proves_guide(task, place, guide):
    """Tell whether the list is a guide for the place, by the words of promise 19."""
    net = task[0]
    places = [row[0] for row in guide]
    if places != sorted(set(places)) or not (full(net, place[0]) or place in places):
        return False
    ranks = {here: rank for here, rank, _ in guide}
    for here, rank, step in guide:
        if full(net, here[0]) or rank < 1 or wanted_step(net, here[0], step) is None:
            return False
        for answer in wanted_answers(task, here, step):
            if not full(net, answer[0]) and not ranks.get(answer, rank) < rank:
                return False
    return True


def proves_trap(task, place, trap):
    """Tell whether the list is a trap for the place, by the words of promise 20."""
    net = task[0]
    if trap != sorted(set(trap)) or place not in trap:
        return False
    if any(full(net, here[0]) for here in trap):
        return False
    return all(any(answer in trap for answer in wanted_answers(task, here, step))
               for here in trap for step in wanted_steps(net, here[0]))


def wanted_decision(task, place):
    """Return the decision of promise 21, however many places are reached."""
    choices = wanted_choices(task, place)
    ranks = wanted_ranks(task, choices)
    if place not in ranks:
        return ("dark", sorted(here for here in choices if here not in ranks))
    guide = {}
    todo = [place]
    while todo:
        here = todo.pop()
        if ranks[here] == 0 or here in guide:
            continue
        good = [(step, told) for step, told in choices[here]
                if all(answer in ranks for answer in told)
                and max(ranks[answer] for answer in told) == ranks[here] - 1]
        guide[here] = good[0][0]
        todo += good[0][1]
    return ("lit", ranks[place], [(here, ranks[here], guide[here]) for here in sorted(guide)])
