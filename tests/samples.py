"""Values that several tests use."""

import random

from firenegatives.graphs import Graph

GREAT = 10 ** 59 + 7

# Kinds of values that are no integer; True and False are none either.
NOT_INTEGERS = [True, False, None, 1.0, "1", "", b"1", [], [1], (), (1,), {}, {1: 2}, {1}, object(), len, int]


def path(size):
    return Graph(size, [(node, node + 1) for node in range(size - 1)])


def cycle(size):
    return Graph(size, [(node, node + 1) for node in range(size - 1)] + [(0, size - 1)])


def star(size):
    return Graph(size, [(0, node) for node in range(1, size)])


def complete_edges(size):
    return [(one, two) for one in range(size) for two in range(one + 1, size)]


def raised(error, function, *args, **named):
    """Return the exception of exactly that class that a call raises."""
    try:
        result = function(*args, **named)
    except error as caught:
        if caught.__class__ is not error:
            raise AssertionError(f"{caught.__class__} instead of {error}")
        return caught
    raise AssertionError(f"{result!r} instead of {error}")


def no_positions(size):
    """Return values that are no position of a graph of that size."""
    right = [-1] * size
    wrong = [right[1:], right + [0], tuple(right), None, -1, True, "-1", {}, {node: -1 for node in range(size)},
             {-1}, object(), range(size), iter(right), [right] * size]
    for entry in NOT_INTEGERS:
        wrong.append(right[1:] + [entry])
        wrong.append([entry] + right[1:])
    return wrong


def no_nodes(size):
    """Return values that are no node of a graph of that size."""
    return [-1, -2, size, size + 1, GREAT, -GREAT] + NOT_INTEGERS


def no_node_lists(size):
    """Return values that are no list of nodes of a graph of that size."""
    wrong = [(), (0,), None, 0, True, "", "0", {}, {0: 1}, {0}, object(), range(1), iter([0]), [[0]], [(0,)]]
    return wrong + [[entry] for entry in no_nodes(size)] + [[0, entry] for entry in no_nodes(size)]


def no_tuples():
    """Return values that are none of the tuples with lists that checkers accept."""
    return [None, True, 0, 1, "", "finite", "balanced", "wild", (), (None,), ("finite",), ([],), [], {}, {1}, object(),
            (None, None), (None, None, None), ([], [], [], []), ([[]], [[]]), b"wild", len, range(3)]


def legs(*lengths):
    """Return the graph with the node 0, from which paths with so many edges start."""
    edges = []
    size = 1
    for length in lengths:
        for place in range(length):
            edges.append((size - 1 if place else 0, size))
            size += 1
    return Graph(size, edges)


def forked(size):
    """Return the path of so many nodes less 4, with two more neighbours at either end."""
    last = size - 5
    edges = [(node, node + 1) for node in range(last)]
    return Graph(size, edges + [(0, last + 1), (0, last + 2), (last, last + 3), (last, last + 4)])


def with_edges(graph, *edges):
    return Graph(graph.size(), graph.edges() + list(edges))


def with_pendant(graph, node):
    """Return the graph with one more node, joined to the given one."""
    return Graph(graph.size() + 1, graph.edges() + [(node, graph.size())])


def side_by_side(*graphs):
    """Return the graph with the nodes and edges of all, those of the later ones numbered behind."""
    size = 0
    edges = []
    for graph in graphs:
        edges += [(one + size, two + size) for one, two in graph.edges()]
        size += graph.size()
    return Graph(size, edges)


def moved_graph(graph, order):
    """Return the graph in which node k has the number order[k]."""
    return Graph(graph.size(), [(order[one], order[two]) for one, two in graph.edges()])


def moved_list(numbers, order):
    """Return the list in which the entry k stands at the place order[k]."""
    moved = [None] * len(numbers)
    for place, number in zip(order, numbers):
        moved[place] = number
    return moved


def some_order(size, seed):
    """Return an order of so many nodes, always the same one for a seed."""
    order = list(range(size))
    random.Random(seed).shuffle(order)
    return order


def finite_graphs():
    """Return all connected finite graphs up to 16 nodes."""
    return ([path(size) for size in range(1, 17)] + [legs(1, 1, length) for length in range(1, 14)]
            + [legs(1, 2, 2), legs(1, 2, 3), legs(1, 2, 4)])


def balanced_graphs():
    """Return all connected balanced graphs up to 16 nodes, each with its weights."""
    return ([(cycle(size), [1] * size) for size in range(3, 17)]
            + [(forked(size), [2] * (size - 4) + [1] * 4) for size in range(5, 17)]
            + [(legs(2, 2, 2), [3, 2, 1, 2, 1, 2, 1]), (legs(1, 3, 3), [4, 2, 3, 2, 1, 3, 2, 1]),
               (legs(1, 2, 5), [6, 3, 4, 2, 5, 4, 3, 2, 1])])


def part_of(graph, component):
    """Return the subgraph on some nodes, which are numbered from 0 in their order."""
    return Graph(len(component), [(component.index(one), component.index(two)) for one, two in graph.edges()
                                  if one in component and two in component])


KITE = Graph(4, [(0, 1), (0, 2), (1, 2), (2, 3)])
GRID = Graph(16, [(node, node + 1) for node in range(16) if node % 4 < 3] + [(node, node + 4) for node in range(12)])


def wild_graphs():
    """Return connected wild graphs of many shapes, most of them just beside finite or balanced ones."""
    with_cycles = [KITE, GRID, with_edges(cycle(4), (0, 2)), with_edges(cycle(16), (0, 8)),
                   with_edges(cycle(16), (3, 5)), with_pendant(cycle(15), 7), with_pendant(cycle(3), 0),
                   with_pendant(with_pendant(cycle(5), 0), 5), Graph(4, complete_edges(4)), Graph(9, complete_edges(9)),
                   with_edges(forked(16), (12, 13)), Graph(16, [(one, two) for one in (0, 1) for two in range(2, 16)]),
                   with_edges(star(5), (1, 2)),
                   Graph(9, [(0, 1), (0, 2), (1, 2), (2, 3), (3, 4), (4, 5), (5, 6), (6, 7), (7, 8), (6, 8)]),
                   Graph(13, complete_edges(9) + [(node, node + 1) for node in range(8, 12)])]
    trees = [star(6), star(16), with_pendant(star(5), 1), legs(1, 1, 1, 12), legs(1, 1, 1, 1, 1, 10), legs(2, 2, 3),
             legs(1, 3, 4), legs(1, 2, 6), legs(1, 2, 12), legs(2, 2, 11), legs(5, 5, 5), legs(3, 3, 3), legs(2, 3, 3),
             legs(1, 3, 11), legs(1, 7, 7), legs(2, 6, 7), legs(4, 4, 7),
             with_pendant(forked(6), 2), with_pendant(forked(7), 1), with_pendant(forked(15), 5),
             with_pendant(forked(15), 14), with_pendant(forked(15), 10), with_pendant(with_pendant(path(14), 3), 9)]
    return with_cycles + trees
