"""Graphs of several components, and positions on them."""

from tests.judges import value_of
from tests.samples import (
    GREAT, GRID, KITE, balanced_graphs, cycle, finite_graphs, forked, legs, moved_graph, path, side_by_side, star,
)

# Finite, balanced and wild components, with the weights of each balanced one.
MIXED = side_by_side(path(2), cycle(3), KITE, star(5))
MIXED_WEIGHTS = [[0, 0, 1, 1, 1] + [0] * 9, [0] * 9 + [2, 1, 1, 1, 1]]
FREE = [2, 3, 4, 9, 10, 11, 12, 13]
# Graphs without a wild component, with the weights of each balanced one.
TAME = [(graph, [weights]) for graph, weights in balanced_graphs()] + [(graph, []) for graph in finite_graphs()]
TAME += [
    (side_by_side(path(3), cycle(3), path(1)), [[0, 0, 0, 1, 1, 1, 0]]),
    (side_by_side(cycle(3), cycle(4), path(2), star(5)),
     [[1] * 3 + [0] * 11, [0] * 3 + [1] * 4 + [0] * 7, [0] * 9 + [2, 1, 1, 1, 1]]),
    (side_by_side(forked(7), legs(1, 2, 5)), [[2] * 3 + [1] * 4 + [0] * 9, [0] * 7 + [6, 3, 4, 2, 5, 4, 3, 2, 1]]),
    (side_by_side(legs(2, 2, 2), legs(1, 2, 4)), [[3, 2, 1, 2, 1, 2, 1] + [0] * 8]),
    (side_by_side(cycle(3), cycle(3), cycle(3), cycle(3), cycle(3), path(1)),
     [[0] * place + [1] * 3 + [0] * (13 - place) for place in range(0, 15, 3)]),
    (moved_graph(side_by_side(cycle(5), path(4), legs(1, 1, 2)), list(range(13, -1, -1))), [[0] * 9 + [1] * 5]),
]
WILD_BESIDE = [(KITE, [0, 1, 2, 3]), (side_by_side(path(1), KITE), [1, 2, 3, 4]),
               (side_by_side(cycle(3), star(6), KITE), [3, 4, 5, 6, 7, 8]), (GRID, list(range(16))),
               (moved_graph(side_by_side(KITE, KITE, path(2)), [9, 1, 4, 6, 0, 8, 2, 3, 5, 7]), [0, 2, 3, 8])]


def positions_with(weights_list, graph, chance):
    """Return positions with small and great numbers and with small, great and no values of the balanced components."""
    for bound, least in [(2, 1), (9, 0), (10 ** 6, 1), (GREAT, 1), (GREAT, 10 ** 30), (3, GREAT)]:
        position = [chance.randint(-bound, bound) for node in range(graph.size())]
        for weights in weights_list:
            node = weights.index(1)
            if least == 0:
                position = [0 if weight else number for weight, number in zip(weights, position)]
            else:
                position[node] += chance.randint(least, 3 * least) - value_of(weights, position)
        yield position


def ends(weights_list, position):
    """Return whether plays end, as [17] says."""
    for weights in weights_list:
        total = value_of(weights, position)
        if total < 0 or total == 0 and any(number for weight, number in zip(weights, position) if weight):
            return False
    return True
