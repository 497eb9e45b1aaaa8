"""Graphs that are put together or renumbered."""

from firenegatives.checks import check_position, is_integer_list
from firenegatives.errors import InvalidOrder
from firenegatives.graphs import Graph


def union(graph, other):
    """Return the graph with the nodes and edges of both; the nodes of the second one are numbered behind."""
    shift = graph.size()
    edges = graph.edges() + [(one + shift, two + shift) for one, two in other.edges()]
    return Graph(shift + other.size(), edges)


def renumbered(graph, order):
    """Return the graph in which node k has the number order[k]."""
    check_order(graph.size(), order)
    return Graph(graph.size(), [(order[one], order[two]) for one, two in graph.edges()])


def renumbered_position(graph, position, order):
    """Return the position of the renumbered graph."""
    check_position(graph.size(), position)
    check_order(graph.size(), order)
    moved = list(position)
    for node, number in zip(order, position):
        moved[node] = number
    return moved


def check_order(size, order):
    """Reject what is not a list that contains each node of a graph of that size once."""
    if not is_integer_list(order, size) or sorted(order) != list(range(size)):
        raise InvalidOrder(order)
