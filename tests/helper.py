"""What several test files share: checks, and the document's words written down a second time."""

import copy
from fractions import Fraction
from itertools import combinations
from math import gcd
from random import Random

from relume.costs import least_run
from relume.dispatch import run_island

DARK = ((), (), ())


def all_parts(many):
    """Return all tuples of ascending indexes below many."""
    return [part for size in range(many + 1) for part in combinations(range(many), size)]


def all_states(net):
    """Return all states of the net."""
    return [(closed, running, fed) for closed in all_parts(len(net[1]))
            for running in all_parts(len(net[2])) for fed in all_parts(len(net[3]))]


def pair(value):
    """Return the fraction of this value as a tuple."""
    value = Fraction(value)
    return (value.numerator, value.denominator)


def pairs(*values):
    return [pair(value) for value in values]


# Checks of promises 1 and 2.

def assert_unchanged(case, function, *arguments):
    """Call the function, and check that its arguments stay as they were; return the answer."""
    before = copy.deepcopy(arguments)
    answer = function(*arguments)
    case.assertEqual(arguments, before)
    return answer


def assert_unchanged_when_raised(case, error, function, *arguments):
    """Check that the function raises the error itself, and that its arguments stay as they were."""
    before = copy.deepcopy(arguments)
    with case.assertRaises(error) as caught:
        function(*arguments)
    case.assertIs(type(caught.exception), error)
    case.assertEqual(arguments, before)


def lists_in(value):
    """Return the lists that occur in the value, each as often as it occurs."""
    if not isinstance(value, (list, tuple)):
        return []
    found = [value] if isinstance(value, list) else []
    return found + [inner for item in value for inner in lists_in(item)]


def assert_fresh(case, function, *arguments):
    """Check that an answer has new lists, none of them twice, and that changes to it have no effect."""
    answer = assert_unchanged(case, function, *arguments)
    lists = lists_in(answer)
    case.assertEqual(len({id(found) for found in lists}), len(lists))
    passed = {id(found) for found in lists_in(arguments)}
    case.assertFalse([found for found in lists if id(found) in passed])
    before = copy.deepcopy(answer)
    for found in lists:
        found.append("changed")
        found.reverse()
    case.assertEqual(function(*arguments), before)
    return before


def assert_plain(case, value):
    """Check that the value is made of integers, strings, lists and tuples only."""
    if isinstance(value, (list, tuple)):
        case.assertIn(type(value), (list, tuple))
        for item in value:
            assert_plain(case, item)
    else:
        case.assertIn(type(value), (int, str))


def is_lowest(pair):
    """Tell whether the value is a fraction as promise 2 has it."""
    return (type(pair) is tuple and len(pair) == 2 and all(type(part) is int for part in pair)
            and pair[1] >= 1 and gcd(*pair) == 1)


# Part 1: islands.

def reached_nodes(net, closed, start):
    """Walk from one node over closed lines; another way than the program's, to compare with."""
    found = {start}
    todo = [start]
    while todo:
        node = todo.pop()
        for k in closed:
            a, b = net[1][k][:2]
            for here, there in ((a, b), (b, a)):
                if here == node and there not in found:
                    found.add(there)
                    todo.append(there)
    return sorted(found)


def wanted_islands(net, closed):
    """Return the islands that the closed lines make."""
    found = []
    for node in range(net[0]):
        if not any(node in island for island in found):
            found.append(reached_nodes(net, closed, node))
    return found


# Part 2: dispatches and barriers.

def inner_items(net, state, island):
    """Return the closed lines, the running stations and the fed loads of an island, as tuples."""
    lines = [net[1][k] for k in state[0] if net[1][k][0] in island]
    stations = [net[2][k] for k in state[1] if net[2][k][0] in island]
    loads = [net[3][k] for k in state[2] if net[3][k][0] in island]
    return lines, stations, loads


def condition_values(net, state, island, outputs, potentials):
    """Return the values that the conditions of promise 7 say to be at least 0, in its order."""
    lines, stations, loads = inner_items(net, state, island)
    level = dict(zip(island, potentials))
    flows = [strength * (level[a] - level[b]) for a, b, strength, _ in lines]
    values = []
    for station, output in zip(stations, outputs):
        values += [output - station[1], station[2] - output]
    for line, flow in zip(lines, flows):
        values += [line[3] - flow, line[3] + flow]
    for node in island:
        excess = sum(output for station, output in zip(stations, outputs) if station[0] == node)
        excess -= sum(amount for place, amount in loads if place == node)
        excess -= sum(flow for line, flow in zip(lines, flows) if line[0] == node)
        excess += sum(flow for line, flow in zip(lines, flows) if line[1] == node)
        values += [excess, -excess]
    return values


def wanted_conditions(net, state, island):
    """Return the conditions of promise 7, from the values at 0 and at each unknown alone."""
    many = len(inner_items(net, state, island)[1])
    count = many + len(island) - 1

    def values(unknowns):
        return condition_values(net, state, island, unknowns[:many], [0] + unknowns[many:])

    firsts = values([0] * count)
    columns = []
    for at in range(count):
        raised = values([int(k == at) for k in range(count)])
        columns.append([high - low for high, low in zip(raised, firsts)])
    return [list(row) for row in zip(firsts, *columns)]


def proves_dispatch(net, state, island, outputs, potentials):
    """Tell whether the lists are a dispatch, by the words of promise 6."""
    stations = inner_items(net, state, island)[1]
    if len(outputs) != len(stations) or len(potentials) != len(island):
        return False
    if not all(is_lowest(pair) for pair in outputs + potentials):
        return False
    outputs = [Fraction(*pair) for pair in outputs]
    potentials = [Fraction(*pair) for pair in potentials]
    values = condition_values(net, state, island, outputs, potentials)
    return potentials[0] == 0 and min(values) >= 0


def proves_none(conditions, integers):
    """Tell whether the integers show that no unknowns satisfy the conditions (promises 8 and 9)."""
    if len(integers) != len(conditions) or any(number < 0 for number in integers):
        return False
    sums = [sum(times * number for times, number in zip(integers, column))
            for column in zip(*conditions)]
    return bool(sums) and sums[0] < 0 and not any(sums[1:])


PROVED = {}


def proved_feasible(net, state, island):
    """Tell whether the island is feasible, by an answer that is proved here."""
    key = (tuple(island), repr(inner_items(net, state, island)))
    if key not in PROVED:
        answer = run_island(net, state, island)
        if answer[0] == "yes":
            assert proves_dispatch(net, state, island, answer[1], answer[2])
        else:
            assert answer[0] == "no"
            assert proves_none(wanted_conditions(net, state, island), answer[1])
        PROVED[key] = answer[0] == "yes"
    return PROVED[key]


# Part 3: switching and faults.

WORDS = ["close", "open", "begin", "end", "feed", "drop"]


def lit(net, state, island):
    return bool(inner_items(net, state, island)[1])


def wanted_sound(net, state):
    """Tell whether the state is sound, by the words of promise 13."""
    for island in wanted_islands(net, state[0]):
        if not lit(net, state, island):
            if inner_items(net, state, island)[2]:
                return False
        elif not proved_feasible(net, state, island):
            return False
    return True


def wanted_settled(net, state):
    """Return the settled state: first stations stop, then loads are dropped."""
    closed, running, fed = state
    islands = wanted_islands(net, closed)
    stopped = [k for island in islands if lit(net, state, island)
               and not proved_feasible(net, state, island)
               for k in running if net[2][k][0] in island]
    running = tuple(k for k in running if k not in stopped)
    dark = [island for island in islands if not lit(net, (closed, running, fed), island)]
    dropped = [k for island in dark for k in fed if net[3][k][0] in island]
    return (closed, running, tuple(k for k in fed if k not in dropped))


def wanted_step(net, state, step):
    """Return the state after the step, or None if it is not allowed, by the words of promise 14."""
    word, k = step
    at = WORDS.index(word) // 2
    part = set(state[at])
    if k not in range(len(net[at + 1])):
        return None
    if word in ("close", "begin", "feed"):
        if k in part:
            return None
        part.add(k)
    else:
        if k not in part:
            return None
        part.remove(k)
    if word == "begin" and not net[2][k][3]:
        home = [island for island in wanted_islands(net, state[0]) if net[2][k][0] in island]
        if not lit(net, state, home[0]):
            return None
    after = tuple(tuple(sorted(part)) if here == at else state[here] for here in range(3))
    return after if wanted_sound(net, after) else None


def wanted_steps(net, state):
    """Return the allowed steps in the order of promise 14."""
    return [(word, k) for at, word in enumerate(WORDS) for k in range(len(net[at // 2 + 1]))
            if wanted_step(net, state, (word, k)) is not None]


def wanted_fault(net, state, fault):
    """Return the settled state after the fault, or None if it cannot strike (promise 15)."""
    at = ["line", "station"].index(fault[0])
    if fault[1] not in state[at]:
        return None
    part = tuple(k for k in state[at] if k != fault[1])
    return wanted_settled(net, tuple(part if here == at else state[here] for here in range(3)))


def full(net, state):
    return set(state[2]) == set(range(len(net[3])))


def wanted_answers(task, place, step):
    """Return the answers to an allowed step from a place that is not full (promise 16)."""
    net, faults = task
    state, strikes = place
    after = wanted_step(net, state, step)
    found = [(after, strikes)]
    if strikes >= 1 and not full(net, after):
        struck = [wanted_fault(net, after, fault) for fault in faults]
        found += [(blown, strikes - 1) for blown in struck if blown is not None]
    return found


# Part 4: lighting against faults.

def wanted_choices(task, place):
    """Return all places that are reached from the place, each with its steps and their answers."""
    net = task[0]
    steps = {}
    found = {}
    todo = [place]
    while todo:
        here = todo.pop()
        if here in found:
            continue
        found[here] = []
        if not full(net, here[0]):
            if here[0] not in steps:
                steps[here[0]] = wanted_steps(net, here[0])
            for step in steps[here[0]]:
                found[here].append((step, wanted_answers(task, here, step)))
        todo += [answer for _, told in found[here] for answer in told]
    return found


def wanted_ranks(task, choices):
    """Return the ranks of promise 18, number by number."""
    ranks = {place: 0 for place in choices if full(task[0], place[0])}
    number = 1
    while True:
        new = [place for place in choices if place not in ranks
               and any(all(ranks.get(answer, number) <= number - 1 for answer in told)
                       for _, told in choices[place])]
        if not new:
            return ranks
        ranks.update({place: number for place in new})
        number += 1


def proves_guide(task, place, guide):
    """Tell whether the list is a guide for the place, by the words of promise 19."""
    net = task[0]
    places = [row[0] for row in guide]
    if places != sorted(set(places)) or not (full(net, place[0]) or place in places):
        return False
    ranks = {here: rank for here, rank, _ in guide}
    for here, rank, step in guide:
        if full(net, here[0]) or rank < 1 or wanted_step(net, here[0], step) is None:
            return False
        for answer in wanted_answers(task, here, step):
            if not full(net, answer[0]) and not ranks.get(answer, rank) < rank:
                return False
    return True


def proves_trap(task, place, trap):
    """Tell whether the list is a trap for the place, by the words of promise 20."""
    net = task[0]
    if trap != sorted(set(trap)) or place not in trap:
        return False
    if any(full(net, here[0]) for here in trap):
        return False
    return all(any(answer in trap for answer in wanted_answers(task, here, step))
               for here in trap for step in wanted_steps(net, here[0]))


def wanted_decision(task, place):
    """Return the decision of promise 21, however many places are reached."""
    choices = wanted_choices(task, place)
    ranks = wanted_ranks(task, choices)
    if place not in ranks:
        return ("dark", sorted(here for here in choices if here not in ranks))
    guide = {}
    todo = [place]
    while todo:
        here = todo.pop()
        if ranks[here] == 0 or here in guide:
            continue
        good = [(step, told) for step, told in choices[here]
                if all(answer in ranks for answer in told)
                and max(ranks[answer] for answer in told) == ranks[here] - 1]
        guide[here] = good[0][0]
        todo += good[0][1]
    return ("lit", ranks[place], [(here, ranks[here], guide[here]) for here in sorted(guide)])


def wanted_play(task, place, choices):
    """Return the play of promise 22, or None if the place has no rank."""
    decision = wanted_decision(task, place)
    if decision[0] == "dark":
        return None
    steps = {here: step for here, _, step in decision[2]}
    found = [place]
    left = list(choices)
    while not full(task[0], found[-1][0]):
        told = wanted_answers(task, found[-1], steps[found[-1]])
        found.append(told[left.pop(0) % len(told)] if left else told[0])
    return found


# Part 6: costs and losses.

def wanted_units(net, state, island, costs):
    """Return the costs of the stations of the island, in order."""
    return [costs[k] for k in state[1] if net[2][k][0] in island]


def proves_least(net, state, island, costs, answer):
    """Tell whether the answer is right, by the words of promise 26."""
    _, cost, outputs, potentials, weights = answer
    if not proves_dispatch(net, state, island, outputs, potentials):
        return False
    conditions = wanted_conditions(net, state, island)
    if len(weights) != len(conditions) or not all(is_lowest(found) for found in [cost] + weights):
        return False
    cost = Fraction(*cost)
    weights = [Fraction(*weight) for weight in weights]
    units = wanted_units(net, state, island, costs)
    if min(weights) < 0 or cost != sum(unit * Fraction(*output) for unit, output in zip(units, outputs)):
        return False
    sums = [sum(weight * number for weight, number in zip(weights, column)) for column in zip(*conditions)]
    return sums == [-cost] + units + [0] * (len(island) - 1)


def proved_cost(net, state, island, costs):
    """Return the least cost of the island, by an answer that is proved here, or None if it is not feasible."""
    answer = least_run(net, state, island, costs)
    if answer[0] == "no":
        assert proves_none(wanted_conditions(net, state, island), answer[1])
        return None
    assert proves_least(net, state, island, costs, answer)
    return Fraction(*answer[1])


def wanted_total(net, state, costs):
    """Return the total cost of promise 27, a fraction, or None."""
    found = [proved_cost(net, state, island, costs) for island in wanted_islands(net, state[0])
             if lit(net, state, island)]
    return None if None in found else pair(sum(found))


def wanted_loss(net, state, fault):
    """Return the loss of a fault that can strike, by the words of promise 28."""
    after = wanted_fault(net, state, fault)
    stopped = set(state[1]) - set(after[1])
    if fault[0] == "station":
        stopped.remove(fault[1])
    return (sorted(stopped), sorted(set(state[2]) - set(after[2])))


def wanted_worst(task, state, strikes):
    """Return the worst loss of promise 29: all ways are gone, each to its end."""
    if strikes == 0:
        return 0
    found = [0]
    for fault in task[1]:
        after = wanted_fault(task[0], state, fault)
        if after is not None:
            loads = wanted_loss(task[0], state, fault)[1]
            found.append(len(loads) + wanted_worst(task, after, strikes - 1))
    return max(found)


# Examples: islands.

def chain(strength, limit, least, greatest, amount):
    """Return a net of a station at the node 0, a line, and a load at the node 1."""
    return (2, [(0, 1, strength, limit)], [(0, least, greatest, True)], [(1, amount)])


ALL = ((0,), (0,), (0,))

# A net with two islands, open lines, a station that stands and a load that is not fed.
PARTED = (6,
          [(0, 2, 3, 10), (1, 4, 5, 20), (2, 5, 2, 0), (0, 1, 9, 9), (1, 4, 1, 1000), (0, 5, 4, 7)],
          [(2, 1, 8, True), (4, 0, 30, False), (0, 2, 2, False), (1, 5, 6, True)],
          [(5, 4), (1, 6), (3, 2), (0, 1)])
PARTED_STATE = ((0, 1, 2, 4), (0, 1, 2), (0, 1, 3))

# Two lines to the node 2 that bear just their limits, so that all potentials are fixed.
FIXED = (3, [(0, 1, 2, 1000), (0, 2, 3, 1), (1, 2, 5, 1)], [(0, 0, 9, True), (1, 0, 9, True)], [(2, 2)])
FIXED_STATE = ((0, 1, 2), (0, 1), (0,))

# The greatest nets: a ring, and a tree with a line twice.
RING = (8, [(k, k + 1, 3 + k, 40 + k) for k in range(7)] + [(0, 7, 11, 60)],
        [(0, 0, 50, True), (3, 5, 60, False), (3, 0, 10, True), (6, 20, 30, False)],
        [(1, 20), (4, 25), (4, 5), (7, 31)])
TREE = (8, [(0, 4, 1, 30), (1, 4, 1000, 25), (4, 7, 7, 1000), (2, 7, 13, 90), (3, 7, 2, 90),
            (3, 5, 6, 5), (3, 5, 3, 5), (3, 6, 1, 30)],
        [(0, 0, 30, True), (1, 25, 25, False), (2, 0, 1000, False), (6, 3, 30, True)],
        [(5, 10), (5, 1), (7, 60), (0, 9)])
WHOLE = (tuple(range(8)), (0, 1, 2, 3), (0, 1, 2, 3))


def random_net(random):
    """Return a net whose islands are often close to what they can bear."""
    nodes = random.randint(1, 8)
    lines = []
    for _ in range(random.randint(0, 8) if nodes > 1 else 0):
        a, b = sorted(random.sample(range(nodes), 2))
        lines.append((a, b, random.choice((1, 1, 2, 7, 1000)), random.choice((0, 1, 5, 10, 1000))))
    stations = []
    for _ in range(random.randint(0, 4)):
        least = random.choice((0, 0, 1, 5, 1000))
        stations.append((random.randrange(nodes), least, random.choice((least, max(least, 12), 1000)),
                         random.choice((True, False))))
    loads = [(random.randrange(nodes), random.choice((1, 2, 6, 9, 1000)))
             for _ in range(random.randint(0, 4))]
    return (nodes, lines, stations, loads)


def random_part(random, many, chance):
    return tuple(k for k in range(many) if random.random() < chance)


def random_islands(seed, many):
    """Return nets, states and islands, most of them lit ones."""
    random = Random(seed)
    found = []
    while len(found) < many:
        net = random_net(random)
        state = tuple(random_part(random, len(items), 0.8) for items in net[1:])
        for island in wanted_islands(net, state[0]):
            if inner_items(net, state, island)[1] or random.random() < 0.1:
                found.append((net, state, island))
    return found


# Examples: places.

# One node with a station that begins by itself, and a load.
ALONE = (1, [], [(0, 0, 5, True)], [(0, 5)])
ON = ((), (0,), ())
LIT = ((), (0,), (0,))

# The station begins not by itself; the load is behind a line.
BEHIND = (2, [(0, 1, 1, 5)], [(0, 0, 5, False)], [(1, 5)])

# Two lines beside each other, each of which bears the load alone.
TWIN = (2, [(0, 1, 1, 5), (0, 1, 1, 5)], [(0, 0, 9, True)], [(1, 5)])

# 8 nodes, 8 lines, 4 stations and 4 loads: four parts, three of which are lit and may not change.
GREAT = (8,
         [(0, 1, 1, 5), (0, 1, 1, 5), (2, 3, 1, 5), (4, 5, 1, 5), (6, 7, 1, 5), (6, 7, 2, 5),
          (1, 2, 1, 0), (3, 4, 1, 0)],
         [(0, 5, 5, False), (2, 5, 5, False), (4, 5, 5, False), (6, 0, 5, True)],
         [(1, 5), (3, 5), (5, 5), (7, 5)])
GREAT_STATE = ((0, 1, 2, 3, 6), (0, 1, 2), (0, 1, 2))

# Two like parts, in which each line and each station may fail.
DOUBLE = (4, [(0, 1, 1, 5), (0, 1, 2, 5), (2, 3, 1, 5), (2, 3, 2, 5)],
          [(0, 0, 5, True), (1, 0, 5, True), (2, 0, 5, True), (3, 0, 5, True)], [(1, 5), (3, 5)])

# A greatest net, from whose dark state far too many places are reached.
VAST = (8, [(k, k + 1, 1, 1000) for k in range(7)] + [(0, 7, 1, 1000)],
        [(k, 0, 1000, True) for k in range(4)], [(k + 4, 200) for k in range(4)])

# Nets whose dark state reaches just so many places.
REACHED = [
    (1500, (2, [(0, 1, 2, 3), (0, 1, 5, 10), (0, 1, 4, 3), (0, 1, 3, 2), (0, 1, 1, 1), (0, 1, 5, 10)],
            [(0, 0, 3, True)], [(1, 1), (0, 3), (1, 3), (1, 3)]), [("line", 4), ("station", 0)], 3),
    (1500, (2, [(0, 1, 5, 10), (0, 1, 5, 10), (0, 1, 4, 3), (0, 1, 1, 2), (0, 1, 3, 3), (0, 1, 5, 10),
                (0, 1, 2, 1), (0, 1, 4, 3)],
            [(1, 0, 0, True), (1, 0, 6, True), (1, 2, 3, True)], [(0, 4)]), [("station", 2)], 0),
    (1500, (5, [(0, 1, 2, 2), (0, 2, 3, 10), (1, 4, 5, 1), (0, 4, 3, 3)],
            [(2, 1, 6, True), (4, 0, 5, True), (1, 1, 4, True)], [(1, 2), (4, 3), (2, 4)]),
     [("line", 3), ("station", 0), ("line", 2)], 4),
    (1500, (6, [(3, 5, 5, 3), (1, 4, 4, 2), (2, 3, 5, 1), (1, 5, 5, 2), (2, 3, 2, 3)],
            [(3, 0, 2, True), (0, 0, 6, True), (5, 0, 5, False), (2, 0, 6, False)],
            [(0, 4), (4, 1), (3, 2)]), [], 5),
    (1501, (3, [(1, 2, 2, 3), (0, 2, 2, 10), (1, 2, 1, 2), (0, 1, 1, 2), (0, 1, 1, 10), (0, 2, 3, 3)],
            [(1, 0, 5, False), (0, 0, 5, True), (1, 1, 3, True)], [(1, 1), (2, 2)]),
     [("line", 3), ("line", 5), ("line", 1), ("station", 1), ("station", 2), ("station", 0), ("line", 0),
      ("line", 2)], 0),
    (1502, (2, [(0, 1, 4, 2), (0, 1, 4, 1), (0, 1, 1, 1), (0, 1, 1, 10), (0, 1, 1, 10), (0, 1, 1, 2),
                (0, 1, 2, 10), (0, 1, 1, 10)], [(1, 0, 2, True)], [(1, 1), (1, 1), (0, 2)]), [], 0),
]


def small_net(random):
    """Return a net with few states, on which faults often matter."""
    nodes = random.randint(1, 3)
    lines = []
    for _ in range(random.randint(0, 3) if nodes > 1 else 0):
        a, b = sorted(random.sample(range(nodes), 2))
        lines.append((a, b, random.randint(1, 2), random.choice((0, 2, 5, 5))))
    stations = []
    for _ in range(random.randint(1, 3)):
        least = random.choice((0, 0, 0, 1, 3))
        stations.append((random.randrange(nodes), least, random.randint(max(1, least), 6),
                         random.random() < 0.5))
    loads = [(random.randrange(nodes), random.randint(1, 5)) for _ in range(random.randint(1, 2))]
    return (nodes, lines, stations, loads)


def small_tasks(seed, many):
    """Return tasks on small nets, each with places, of which many are lit."""
    random = Random(seed)
    found = []
    while len(found) < many:
        net = small_net(random)
        faults = [("line", k) for k in range(len(net[1]))] + [("station", k) for k in range(len(net[2]))]
        random.shuffle(faults)
        task = (net, faults[:random.randint(0, len(faults))])
        states = [state for state in all_states(net) if wanted_sound(net, state)]
        lit = [state for state in states if state[1]] or states
        chosen = [random.choice(states), random.choice(lit), random.choice(lit), DARK]
        found.append((task, [(state, random.choice((0, 0, 1, 1, 2, 3))) for state in chosen]))
    return found


TASKS = small_tasks(31, 60)
