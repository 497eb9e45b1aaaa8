"""Positions, flipping and firing their nodes, and plays."""

from firenegatives.checks import check_limit, check_node, check_position, is_integer_list, is_node_list
from firenegatives.errors import InvalidPlay, NotNegative


def is_position(graph, thing):
    """Return whether a thing is a position of the graph."""
    return is_integer_list(thing, graph.size())


def negatives(graph, position):
    """Return the nodes with negative numbers in ascending order."""
    check_position(graph.size(), position)
    return [node for node, number in enumerate(position) if number < 0]


def has_ended(graph, position):
    """Return whether no number of the position is negative."""
    return not negatives(graph, position)


def flip(graph, position, node):
    """Return the position after flipping the node."""
    check_position(graph.size(), position)
    check_node(graph.size(), node)
    numbers = list(position)
    flip_in_place(numbers, node, graph.neighbours(node))
    return numbers


def fire(graph, position, node):
    """Return the position after firing the node."""
    reached = flip(graph, position, node)
    if position[node] >= 0:
        raise NotNegative(node)
    return reached


def play(graph, position, nodes):
    """Return the position that a play of the position reaches."""
    reached, totals = checked_play(graph, position, nodes)
    return reached


def is_play(graph, position, thing):
    """Return whether a thing is a play of the position."""
    check_position(graph.size(), position)
    return follow(graph, position, thing) is not None


def is_complete(graph, position, thing):
    """Return whether a thing is a play of the position that reaches an ended one."""
    check_position(graph.size(), position)
    followed = follow(graph, position, thing)
    return followed is not None and has_ended(graph, followed[0])


def run(graph, position, limit):
    """Fire the smallest negative node until none is left or limit firings are done.

    Return the position that is reached and the list of the fired nodes.
    """
    check_position(graph.size(), position)
    check_limit(limit)
    numbers = list(position)
    fired = run_in_place(all_neighbours(graph), numbers, limit)
    return numbers, fired


def totals_of(graph, position, nodes):
    """Return, for each node, the sum of the absolute values that a play fires there."""
    reached, totals = checked_play(graph, position, nodes)
    return totals


def all_neighbours(graph):
    """Return a list with, for each node, the list of its neighbours."""
    return [graph.neighbours(node) for node in range(graph.size())]


def flip_in_place(numbers, node, near):
    """Flip a node with the given neighbours in a list of numbers that the caller owns."""
    number = numbers[node]
    for other in near:
        numbers[other] += number
    numbers[node] = -number


def run_in_place(near, numbers, limit):
    """Fire the smallest negative node again and again in a list of numbers that the caller owns.

    Return the list of the fired nodes; near holds the neighbours of each node.
    """
    fired = []
    while len(fired) < limit:
        node = first_negative(numbers)
        if node is None:
            break
        flip_in_place(numbers, node, near[node])
        fired.append(node)
    return fired


def first_negative(numbers):
    """Return the smallest node with a negative number, or None if there is none."""
    for node, number in enumerate(numbers):
        if number < 0:
            return node
    return None


def follow(graph, position, thing):
    """Return the position that a play reaches and the sums that it fires, or None if a thing is no play."""
    if not is_node_list(graph.size(), thing):
        return None
    near = all_neighbours(graph)
    numbers = list(position)
    totals = [0] * graph.size()
    for node in thing:
        if numbers[node] >= 0:
            return None
        totals[node] -= numbers[node]
        flip_in_place(numbers, node, near[node])
    return numbers, totals


def checked_play(graph, position, nodes):
    """Return what follow returns for a play; reject what is not a play of the position."""
    check_position(graph.size(), position)
    followed = follow(graph, position, nodes)
    if followed is None:
        raise InvalidPlay(nodes)
    return followed
