"""Guarantee [4] (a): all complete plays have the same length, the same end and the same sums."""

import itertools
import unittest

from firenegatives.firing import fire, flip, has_ended, is_complete, negatives, play, run, totals_of
from firenegatives.graphs import Graph
from tests.samples import GREAT, KITE, cycle, path, star

LEGS_2_2_1 = Graph(6, [(0, 1), (1, 2), (0, 3), (3, 4), (0, 5)])
PARTS = Graph(6, [(0, 4), (4, 2), (1, 5)])

# Which of the negative nodes is fired next, by the nodes, the position and the number of firings so far.
ORDERS = {
    "smallest": lambda nodes, position, done: nodes[0],
    "greatest": lambda nodes, position, done: nodes[-1],
    "most negative": lambda nodes, position, done: min(nodes, key=lambda node: position[node]),
    "least negative": lambda nodes, position, done: max(nodes, key=lambda node: position[node]),
    "in turn": lambda nodes, position, done: nodes[done % len(nodes)],
    "by jumps": lambda nodes, position, done: nodes[(done * done + 3 * done + 1) // 2 % len(nodes)],
}


def complete_in(order, graph, position):
    """Return a complete play in one of the orders above."""
    nodes = []
    while not has_ended(graph, position):
        node = ORDERS[order](negatives(graph, position), position, len(nodes))
        position = fire(graph, position, node)
        nodes.append(node)
    return nodes


def all_complete(graph, position):
    """Return every complete play of a position whose plays end."""
    if has_ended(graph, position):
        return [[]]
    return [[node] + rest for node in negatives(graph, position)
            for rest in all_complete(graph, fire(graph, position, node))]


def fewest_flips(graph, position, limit):
    """Return the length of the shortest list of flips to an ended position, or None beyond the limit."""
    layer, seen = [position], {tuple(position)}
    for length in range(limit + 1):
        if any(has_ended(graph, each) for each in layer):
            return length
        reached = [flip(graph, each, node) for each in layer for node in range(graph.size())]
        layer = []
        for each in reached:
            if tuple(each) not in seen:
                seen.add(tuple(each))
                layer.append(each)
    return None


class TestCompletePlays(unittest.TestCase):
    def check_same(self, graph, position, plays):
        length, end, totals = len(plays[0]), play(graph, position, plays[0]), totals_of(graph, position, plays[0])
        self.assertTrue(has_ended(graph, end))
        for nodes in plays:
            self.assertTrue(is_complete(graph, position, nodes))
            self.assertEqual(len(nodes), length)
            self.assertEqual(play(graph, position, nodes), end)
            self.assertEqual(totals_of(graph, position, nodes), totals)

    def test_every_order_on_small_graphs(self):
        cases = [(path(3), [-1, -2, -3]), (path(3), [0, -1, 0]), (path(3), [-1, 2, -3]), (star(4), [-1, -1, -2, 3]),
                 (cycle(3), [2, 1, -2]), (cycle(4), [-1, 3, -2, 1]), (KITE, [1, -1, 5, 0]), (KITE, [-1, -1, 9, -2]),
                 (PARTS, [-1, -2, 0, 1, 2, 0]), (Graph(4), [-1, -2, -3, 0]),
                 (path(3), [-GREAT, 1 - GREAT, -7])]
        for graph, position in cases:
            plays = all_complete(graph, position)
            self.assertGreaterEqual(len(plays), 1)
            self.check_same(graph, position, plays)

    def test_several_orders_on_greater_graphs(self):
        cases = [(path(16), [-node - 1 for node in range(16)]),
                 (path(10), [(-1) ** node * GREAT + node for node in range(10)]),
                 (LEGS_2_2_1, [-GREAT, 5, -3, GREAT, 0, -1]), (star(4), [-9, 1, 2, 3]),
                 (cycle(7), [-5, 4, -3, 7, -2, 1, -1]), (cycle(3), [40, 1, -40]),
                 (KITE, [3, -2, 8, -1]), (PARTS, [-1, -GREAT, -2, -3, -5, 4])]
        for graph, position in cases:
            plays = [complete_in(order, graph, position) for order in ORDERS]
            plays.append(run(graph, position, 10000)[1])
            self.check_same(graph, position, plays)

    def test_all_small_positions(self):
        for graph in (path(3), cycle(3), path(2)):
            for numbers in itertools.product(range(-2, 3), repeat=graph.size()):
                position = list(numbers)
                if len(graph) == 3 and (sum(position) < 0 or sum(position) == 0 and any(position)):
                    continue
                self.check_same(graph, position, [complete_in(order, graph, position) for order in ORDERS])

    def test_every_play_can_be_continued(self):
        position = [-3, 5, -4, 2]
        graph = star(4)
        complete = complete_in("smallest", graph, position)
        for order in ORDERS:
            nodes = complete_in(order, graph, position)
            for length in range(len(nodes) + 1):
                rest = complete_in("greatest", graph, play(graph, position, nodes[:length]))
                self.check_same(graph, position, [complete, nodes[:length] + rest])

    def test_where_one_play_does_not_end_none_does(self):
        for order in ORDERS:
            position, done = [1, 0, -1], 0
            while done < 200:
                position = fire(cycle(3), position, ORDERS[order](negatives(cycle(3), position), position, done))
                done += 1
            self.assertFalse(has_ended(cycle(3), position))

    def test_no_flips_end_it_sooner(self):
        cases = [(path(2), [-1, -2]), (path(3), [-1, -2, -3]), (path(3), [-1, 2, -3]), (path(4), [1, -2, -1, 1]),
                 (star(4), [-1, 2, -1, 1]), (cycle(3), [2, 1, -2]), (cycle(4), [-1, 3, -2, 1]),
                 (path(3), [-GREAT, 3, GREAT - 9]), (Graph(3, [(0, 2)]), [-1, -5, 2])]
        for graph, position in cases:
            length = len(run(graph, position, 10000)[1])
            self.assertEqual(fewest_flips(graph, position, length), length)


if __name__ == "__main__":
    unittest.main()
