"""Graphs of at most 16 nodes, which are numbered from 0, and at most 40 edges."""

from firenegatives.checks import check_node, is_integer_within, is_node
from firenegatives.errors import InvalidEdge, InvalidSize, TooMany

MOST_NODES = 16
MOST_EDGES = 40


class Graph:
    """A graph that never changes, without parallel edges."""

    def __init__(self, size, edges=()):
        if not is_integer_within(size, 1, MOST_NODES):
            raise InvalidSize(size)
        joined = checked_edges(size, edges)
        if len(joined) > MOST_EDGES:
            raise TooMany(len(joined))
        self.node_count = size
        self.joined = joined
        self.near = neighbour_lists(size, joined)

    def size(self):
        """Return the number of nodes."""
        return self.node_count

    def edges(self):
        """Return the edges in ascending order, each with its smaller node first."""
        return list(self.joined)

    def neighbours(self, node):
        """Return the neighbours of a node in ascending order."""
        check_node(self.node_count, node)
        return list(self.near[node])

    def components(self):
        """Return the components as ascending lists, ordered by their smallest nodes."""
        found = []
        for node in range(self.node_count):
            component = component_of(self.near, node)
            # Each component turns up once for each of its nodes; its smallest node comes first.
            if component[0] == node:
                found.append(component)
        return found

    def __len__(self):
        return len(self.joined)

    def __eq__(self, other):
        return isinstance(other, Graph) and self.node_count == other.node_count and self.joined == other.joined

    def __repr__(self):
        return f"Graph({self.node_count}, {self.joined})"


def is_edge(size, thing):
    """Return whether a thing is a tuple of two different nodes of a graph of that size."""
    if not isinstance(thing, tuple) or len(thing) != 2:
        return False
    one, two = thing
    return is_node(size, one) and is_node(size, two) and one != two


def checked_edges(size, edges):
    """Return the edges in ascending order, each with its smaller node first, or reject them."""
    if not isinstance(edges, (list, tuple)):
        raise InvalidEdge(edges)
    found = []
    for entry in edges:
        if not is_edge(size, entry):
            raise InvalidEdge(entry)
        edge = (min(entry), max(entry))
        if edge in found:
            raise InvalidEdge(entry)
        found.append(edge)
    return sorted(found)


def neighbour_lists(size, edges):
    """Return a list with, for each node, the ascending list of its neighbours."""
    near = [[] for node in range(size)]
    for one, two in edges:
        near[one].append(two)
        near[two].append(one)
    return [sorted(nodes) for nodes in near]


def component_of(near, start):
    """Return the nodes to which edges lead from a node, itself included, in ascending order."""
    found = [start]
    waiting = [start]
    while waiting:
        node = waiting.pop()
        fresh = [other for other in near[node] if other not in found]
        found.extend(fresh)
        waiting.extend(fresh)
    return sorted(found)
