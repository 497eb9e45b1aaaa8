"""Positions that are connected by flips, and lists of flips that lead from one to the other."""

from firenegatives.checks import check_position, is_node_list
from firenegatives.errors import TooMany
from firenegatives.firing import all_neighbours, flip_in_place, run_in_place
from firenegatives.jumps import settled_part
from firenegatives.lengths import steps
from firenegatives.parts import alone, decided_parts, picked, put_back, spread
from firenegatives.weights import worth

LONGEST_LINK = 20000


def canonical(graph, position):
    """Return the canonical position; reject a graph with a wild component."""
    check_position(graph.size(), position)
    reached = [0] * graph.size()
    for component, certificate in decided_parts(graph):
        numbers = picked(position, component)
        put_back(reached, component, canonical_part(alone(graph, component), certificate, numbers))
    return reached


def linked(graph, position, other):
    """Return whether flips lead from one position to the other; reject a graph with a wild component."""
    check_position(graph.size(), position)
    check_position(graph.size(), other)
    return canonical(graph, position) == canonical(graph, other)


def link(graph, position, other):
    """Return a list of nodes whose flips lead from one position to the other, or None if there is none.

    A graph with a wild component is rejected, and so are positions for which the list is too long.
    """
    if not linked(graph, position, other):
        return None
    tasks = [two_plays(graph, component, certificate, position, other)
             for component, certificate in decided_parts(graph)
             if picked(position, component) != picked(other, component)]
    count = sum([steps(field, numbers) for nodes, field, pair in tasks for numbers in pair])
    if count > LONGEST_LINK:
        raise TooMany(count)
    found = []
    for nodes, field, pair in tasks:
        there, back = [run_in_place(all_neighbours(field), list(numbers), LONGEST_LINK) for numbers in pair]
        found.extend([nodes[place] for place in there + back[::-1]])
    return found


def is_link(graph, position, other, thing):
    """Return whether a thing is a list of nodes whose flips, one after the other, lead from position to other."""
    check_position(graph.size(), position)
    check_position(graph.size(), other)
    if not is_node_list(graph.size(), thing):
        return False
    near = all_neighbours(graph)
    numbers = list(position)
    for node in thing:
        flip_in_place(numbers, node, near[node])
    return numbers == other


def two_plays(graph, component, certificate, position, other):
    """Return what is to be fired on a component to bring two linked positions to their canonical one.

    It is a tuple of the nodes that are fired, the subgraph on them, and the list of the numbers of both there. Both
    positions have the same value on the component, so the same nodes and the same sign are right for them.
    """
    places, sign = firing_field(certificate, picked(position, component))
    nodes = [component[place] for place in places]
    pair = [[sign * number for number in picked(numbers, nodes)] for numbers in (position, other)]
    return nodes, alone(graph, nodes), pair


def canonical_part(part, certificate, numbers):
    """Return the canonical numbers of a component alone."""
    nodes, sign = firing_field(certificate, numbers)
    if len(nodes) < len(numbers):
        return canonical_with_value_0(part, certificate[1], numbers, nodes)
    end = settled_part(part, certificate, [sign * number for number in numbers])[2]
    return [sign * number for number in end]


def canonical_with_value_0(part, weights, numbers, nodes):
    """Return the canonical numbers of a balanced component with the value 0; all nodes but one are fired."""
    near = all_neighbours(alone(part, nodes))
    kept = picked(numbers, nodes)
    run_in_place(near, kept, LONGEST_LINK)
    reached = spread(len(numbers), nodes, kept)
    # The value is still 0, and the node that was left out has the weight 1.
    reached[weights.index(1)] = -worth(weights, reached)
    return reached


def firing_field(certificate, numbers):
    """Return which nodes of a component are fired on the way to its canonical position, and the sign 1 or -1.

    With the sign -1 the negatives of the numbers are fired. With the value 0 the smallest node of weight 1 is left
    out: flipping it leads nowhere where flipping the others does not lead, and what is left is finite.
    """
    nodes = list(range(len(numbers)))
    if certificate[0] == "finite":
        return nodes, 1
    total = worth(certificate[1], numbers)
    if total == 0:
        left_out = certificate[1].index(1)
        return [node for node in nodes if node != left_out], 1
    return nodes, 1 if total > 0 else -1
