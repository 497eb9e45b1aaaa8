"""Searches by the definitions alone, on graphs and positions where they are short."""

from tests.judges import near_of
from tests.samples import cycle, path, side_by_side

# Positions with how many positions their plays reach, and whether plays end: beside 2000 in both directions.
CHAIN = path(4)
ABOUT_2000 = [
    (cycle(3), [1000, 0, -999], 1999, True),
    (cycle(3), [1000, 1, -1000], 2000, True),
    (side_by_side(CHAIN, CHAIN, CHAIN, path(1), path(1), path(1), path(1)), [-1, 0, 0, 0] * 3 + [-1] * 4, 2000, True),
    (cycle(3), [1001, 0, -1000], 2001, True),
    (cycle(3), [1001, 1, -1001], 2002, True),
    (side_by_side(cycle(5), CHAIN, CHAIN, path(1), path(1), path(1)), [1, 0, -1, 0, 0] + [-1, 0, 0, 0] * 2 + [-1] * 3,
     2000, False),
    (side_by_side(cycle(3), cycle(3)), [1, 0, -1, 334, 0, -333], 2001, False),
]


def flipped(near, numbers, node):
    """Return the tuple of numbers after flipping a node: [2]."""
    result = list(numbers)
    for other in near[node]:
        result[other] += numbers[node]
    result[node] = -numbers[node]
    return tuple(result)


def spread_from(graph, position, chosen, limit=10 ** 9):
    """Return all positions that flips of chosen nodes reach; chosen tells from a number whether to flip its node."""
    near = near_of(graph)
    seen, waiting = {tuple(position)}, [tuple(position)]
    for numbers in waiting:
        if len(seen) > limit:
            break
        for node, number in enumerate(numbers):
            if chosen(number):
                reached = flipped(near, numbers, node)
                if reached not in seen:
                    seen.add(reached)
                    waiting.append(reached)
    return seen


def reached_by_plays(graph, position, limit=10 ** 9):
    return spread_from(graph, position, lambda number: number < 0, limit)


def reached_by_flips(graph, position, limit=10 ** 9):
    return spread_from(graph, position, lambda number: number != 0, limit)


def apart_sets(graph, nodes):
    """Return all sets of some nodes, of which no two are neighbours, as ascending lists."""
    found = [[]]
    for node in sorted(nodes):
        found += [chosen + [node] for chosen in found if not set(chosen) & set(near_of(graph)[node])]
    return found
