"""Weights of graphs: how they are found, and how they are checked."""

from firenegatives.checks import is_integer_list
from firenegatives.firing import all_neighbours

# The balanced graphs with one node of degree 3: its weight, and those of the three paths that start there.
LEGGED_WEIGHTS = (
    (3, ((2, 1), (2, 1), (2, 1))),
    (4, ((2,), (3, 2, 1), (3, 2, 1))),
    (6, ((3,), (4, 2), (5, 4, 3, 2, 1))),
)


def worth(form, numbers):
    """Return the value of a form at a list of numbers."""
    return sum([entry * number for entry, number in zip(form, numbers)])


def excess(near, form, node):
    """Return by how much the entries at the neighbours of a node are more than twice its own entry."""
    return sum([form[other] for other in near[node]]) - 2 * form[node]


def is_weights(graph, thing):
    """Return whether a thing is weights of the graph."""
    if not is_integer_list(thing, graph.size()) or min(thing) < 0 or max(thing) == 0:
        return False
    near = all_neighbours(graph)
    return all([excess(near, thing, node) >= 0 for node in range(graph.size())])


def is_balanced_on(graph, form, component):
    """Return whether a form is positive exactly on a component and has no excess at any of its nodes."""
    near = all_neighbours(graph)
    for node, entry in enumerate(form):
        if node in component and (entry <= 0 or excess(near, form, node) != 0):
            return False
        if node not in component and entry != 0:
            return False
    return True


def find_weights(graph):
    """Return weights of the graph, or None if every component is finite.

    They are 1 on all cycles and what joins them; without cycles they are those of a balanced graph inside of it, or 1
    at all other neighbours of two nodes instead of four. On a balanced graph they are its smallest balanced weights.
    """
    near = all_neighbours(graph)
    core = core_of(near)
    if core:
        return [int(node in core) for node in range(graph.size())]
    return forest_weights(near)


def core_of(near):
    """Return what is left when nodes with fewer than two neighbours are taken away again and again."""
    left = []
    kept = list(range(len(near)))
    while len(kept) != len(left):
        left = kept
        kept = [node for node in left if len([other for other in near[node] if other in left]) > 1]
    return kept


def forest_weights(near):
    """Return weights of a graph without cycles, or None if there are none."""
    branches = [node for node, others in enumerate(near) if len(others) > 2]
    for one in branches:
        ways = ways_from(near, one)
        for two in branches:
            # A node of degree 3 alone does not suffice; two of them, or one of degree 4, do.
            if two in ways and (two != one or len(near[one]) > 3):
                return weights_along(near, ways[two])
    for node in branches:
        form = leg_weights(near, node)
        if form is not None:
            return form
    return None


def ways_from(near, start):
    """Return a dict with, for each node to which edges lead from a node, the list of the nodes on a way there."""
    ways = {start: [start]}
    waiting = [start]
    while waiting:
        node = waiting.pop()
        for other in near[node]:
            if other not in ways:
                ways[other] = ways[node] + [other]
                waiting.append(other)
    return ways


def weights_along(near, way):
    """Return the form with 2 on a way and 1 at the other neighbours of its ends."""
    form = [0] * len(near)
    for end in (way[0], way[-1]):
        for other in near[end]:
            form[other] = 1
    for node in way:
        form[node] = 2
    return form


def leg_weights(near, centre):
    """Return weights around the only node of degree 3 of its component, which has no cycle, or None."""
    legs = sorted([leg_of(near, centre, first) for first in near[centre]], key=len)
    for middle, rows in LEGGED_WEIGHTS:
        if all([len(leg) >= len(row) for leg, row in zip(legs, rows)]):
            form = [0] * len(near)
            form[centre] = middle
            for leg, row in zip(legs, rows):
                for node, entry in zip(leg, row):
                    form[node] = entry
            return form
    return None


def leg_of(near, centre, first):
    """Return the nodes of the path that leads from a node over one of its neighbours, without the node itself."""
    leg = [centre, first]
    ahead = [other for other in near[first] if other != centre]
    while ahead:
        leg.append(ahead[0])
        ahead = [other for other in near[leg[-1]] if other != leg[-2]]
    return leg[1:]
