"""The series whose coefficients count the positions that lead to an end in 0, 1, 2, .. firings."""

from firenegatives.firing import all_neighbours
from firenegatives.parts import alone
from firenegatives.weights import leg_of

# The degrees of the finite graphs with legs (1, 2, 2), (1, 2, 3), (1, 2, 4), by their numbers of nodes.
LONG_LEGGED_DEGREES = {
    6: (2, 5, 6, 8, 9, 12),
    7: (2, 6, 8, 10, 12, 14, 18),
    8: (2, 8, 12, 14, 18, 20, 24, 30),
}


def degrees(graph):
    """Return the degrees of a connected finite graph."""
    count = graph.size()
    near = all_neighbours(graph)
    for node, others in enumerate(near):
        if len(others) == 3:
            lengths = sorted([len(leg_of(near, node, first)) for first in others])
            if lengths[1] == 1:
                return list(range(2, 2 * count, 2)) + [count]
            return list(LONG_LEGGED_DEGREES[count])
    return list(range(2, count + 2))


def degrees_within(graph, nodes):
    """Return the degrees of all components of the subgraph on nodes, which are finite."""
    if not nodes:
        return []
    part = alone(graph, nodes)
    found = []
    for component in part.components():
        found.extend(degrees(alone(part, component)))
    return found


def factors(graph, component, certificate, end):
    """Return two lists of powers: a component contributes the quotient of two products of 1 - q ** power.

    1 + q + .. + q ** (d - 1) is the quotient of 1 - q ** d and 1 - q.
    """
    zeros = [node for node in component if end[node] == 0]
    if len(zeros) == len(component):
        return [], []
    kept = component
    if certificate[0] == "balanced":
        left_out = component[certificate[1].index(1)]
        kept = [node for node in component if node != left_out]
    whole = degrees_within(graph, kept)
    fixed = degrees_within(graph, zeros)
    above = whole + [1] * len(fixed)
    below = fixed + [1] * len(whole)
    if certificate[0] == "balanced":
        below.extend([degree - 1 for degree in whole])
    return above, below


def coefficients(above, below, length):
    """Return the first coefficients, up to q ** length, of the quotient of two products of 1 - q ** power."""
    series = [1] + [0] * length
    for power in above:
        for place in reversed(range(power, length + 1)):
            series[place] -= series[place - power]
    for power in below:
        for place in range(power, length + 1):
            series[place] += series[place - power]
    return series
