"""Two plays that meet and plays that are completed: promise [9], and what [3], [4] say of it."""

import inspect
import itertools
import random
import unittest

from firenegatives import diamonds
from firenegatives.diamonds import complete_with, meet
from firenegatives.errors import Endless, InvalidNode, InvalidPlay, InvalidPosition, NotNegative, TooMany, Undecided
from firenegatives.firing import has_ended, is_complete, is_play, negatives, play, run
from firenegatives.graphs import Graph
from firenegatives.lengths import steps
from firenegatives.outcomes import outcome
from tests.components import TAME, positions_with
from tests.samples import (
    GREAT, GRID, KITE, complete_edges, cycle, no_node_lists, no_nodes, no_positions, path, raised, side_by_side, star,
)

TRIANGLE = cycle(3)
PATH = path(3)


class TestExamples(unittest.TestCase):
    def test_example(self):
        self.assertEqual(
            [meet(path(2), [-1, -2], 0, 1), meet(Graph(2), [-1, -2], 0, 1), complete_with(path(2), [-1, -2], [1])],
            [([0, 1, 0], [1, 0, 1], [2, 1]), ([0, 1], [1, 0], [1, 2]), [1, 0, 1]])


class TestInterface(unittest.TestCase):
    SIGNATURES = {"meet": "(graph, position, one, two)", "complete_with": "(graph, position, nodes)"}

    def test_argument_names(self):
        for name, signature in self.SIGNATURES.items():
            function = getattr(diamonds, name)
            self.assertEqual(str(inspect.signature(function)), signature, name)
            self.assertEqual(function.__module__, "firenegatives.diamonds", name)

    def test_keywords(self):
        self.assertEqual(meet(two=1, one=0, position=[-1, -2], graph=Graph(2)), ([0, 1], [1, 0], [1, 2]))
        self.assertEqual(complete_with(nodes=[1], position=[-1, -2], graph=Graph(2)), [1, 0])


class TestMeet(unittest.TestCase):
    def test_any_two_negative_nodes(self):
        chance = random.Random(29)
        for graph in (PATH, star(5), cycle(4), KITE, GRID, Graph(6), Graph(6, complete_edges(6)), path(16)):
            for bound in (3, GREAT):
                position = [chance.randint(-bound, bound) for node in range(graph.size())]
                for one, two in itertools.permutations(negatives(graph, position), 2):
                    result = meet(graph, position, one, two)
                    self.assertIs(result.__class__, tuple)
                    first, second, reached = result
                    self.assertEqual([first[0], second[0]], [one, two])
                    length = 3 if two in graph.neighbours(one) else 2
                    self.assertEqual([len(first), len(second)], [length, length])
                    for nodes in (first, second):
                        self.assertTrue(is_play(graph, position, nodes))
                        self.assertEqual(play(graph, position, nodes), reached)

    def test_equal_numbers(self):
        self.assertEqual(meet(path(2), [-5, -5], 1, 0), ([1, 0, 1], [0, 1, 0], [5, 5]))
        self.assertEqual(meet(PATH, [-5, 0, -5], 2, 0), ([2, 0], [0, 2], [5, -10, 5]))

    def test_wrong_arguments(self):
        for position in no_positions(3):
            self.assertIs(raised(InvalidPosition, meet, PATH, position, 0, 1).value, position)
        for node in no_nodes(3):
            self.assertIs(raised(InvalidNode, meet, PATH, [-1, -2, -3], node, 1).value, node)
            self.assertIs(raised(InvalidNode, meet, PATH, [-1, -2, -3], 1, node).value, node)
            self.assertIs(raised(InvalidNode, meet, PATH, [-1, -2, -3], node, node).value, node)
        for node in range(3):
            self.assertEqual(raised(InvalidNode, meet, PATH, [-1, -2, -3], node, node).value, node)
            self.assertEqual(raised(InvalidNode, meet, PATH, [1, 2, 3], node, node).value, node)

    def test_not_negative(self):
        for number in (0, 1, GREAT):
            self.assertEqual(raised(NotNegative, meet, PATH, [number, -1, -1], 0, 1).value, 0)
            self.assertEqual(raised(NotNegative, meet, PATH, [number, -1, -1], 1, 0).value, 0)
            self.assertEqual(raised(NotNegative, meet, PATH, [number, number, -1], 0, 1).value, 0)
            self.assertEqual(raised(NotNegative, meet, PATH, [number, number, -1], 1, 0).value, 1)
            self.assertEqual(raised(NotNegative, meet, PATH, [-1, -1, number], 0, 2).value, 2)

    def test_order_of_the_exceptions(self):
        self.assertEqual(raised(InvalidPosition, meet, PATH, [1, 2], 7, 7).value, [1, 2])
        self.assertEqual(raised(InvalidNode, meet, PATH, [1, 2, 3], 7, 8).value, 7)
        self.assertEqual(raised(InvalidNode, meet, PATH, [1, 2, 3], 0, 8).value, 8)
        self.assertEqual(raised(InvalidNode, meet, PATH, [1, 2, 3], 7, 0).value, 7)
        self.assertIs(raised(InvalidNode, meet, PATH, [1, 2, 3], 1, True).value, True)
        self.assertIs(raised(InvalidNode, meet, PATH, [1, 2, 3], True, 1).value, True)

    def test_arguments_do_not_change_and_results_are_new(self):
        position = [-1, -2]
        for part in meet(path(2), position, 0, 1):
            part.append(9)
        self.assertEqual([position, meet(path(2), position, 0, 1)], [[-1, -2], ([0, 1, 0], [1, 0, 1], [2, 1])])


class TestCompleteWith(unittest.TestCase):
    def test_beginnings_of_any_length(self):
        chance = random.Random(30)
        for graph, weights_list in TAME:
            for position in positions_with(weights_list, graph, chance):
                if max(abs(number) for number in position) < 50:
                    reached, nodes = list(position), []
                    for length in range(4):
                        found = complete_with(graph, position, nodes)
                        self.assertEqual(found[:len(nodes)], nodes)
                        self.assertTrue(is_complete(graph, position, found))
                        if has_ended(graph, reached):
                            self.assertEqual(found, nodes)
                            break
                        nodes = nodes + [chance.choice(negatives(graph, reached))]
                        reached = play(graph, position, nodes)

    def test_wild_graphs_that_end(self):
        for graph, position in [(KITE, [1, -1, 5, 0]), (KITE, [500, 1, -500, 10 ** 9]),
                                (star(6), [9, -1, -1, -1, 0, 0]),
                                (side_by_side(KITE, KITE), [500, 1, -500, 10 ** 9] * 2)]:
            end, nodes = run(graph, position, 10000)
            for length in (0, 1, 2, len(nodes)):
                found = complete_with(graph, position, nodes[:length])
                self.assertEqual(found[:length], nodes[:length])
                self.assertTrue(is_complete(graph, position, found))

    def test_endless(self):
        for graph, position, nodes in [
            (TRIANGLE, [1, 0, -1], []), (TRIANGLE, [1, 0, -1], [2, 1]), (KITE, [-1, 0, 0, 0], [0]),
            (TRIANGLE, [-GREAT, 0, 0], [0, 1]), (side_by_side(path(2), TRIANGLE), [-1, -2, 1, 0, -1], [0]),
            (side_by_side(KITE, TRIANGLE), [1000, 1, -1000, 10 ** 9, 1, 0, -1], [2]),
        ]:
            expected = play(graph, position, nodes)
            found = raised(Endless, complete_with, graph, position, nodes).value
            self.assertEqual(found, expected)
            found.clear()
            self.assertEqual(raised(Endless, complete_with, graph, position, nodes).value, expected)

    def test_undecided(self):
        ended, late = [500, 1, -500, 10 ** 9], [1000, 1, -1000, 10 ** 9]
        for graph, position, component in [
            (KITE, late, [0, 1, 2, 3]), (side_by_side(KITE, KITE), ended + late, [4, 5, 6, 7]),
            (side_by_side(KITE, KITE), late + ended, [0, 1, 2, 3]),
            (side_by_side(KITE, KITE), late + late, [0, 1, 2, 3]),
            (side_by_side(path(2), TRIANGLE, KITE, KITE), [-1, -2, 3, 1, -3] + [1, -1, 5, 0] + late, [9, 10, 11, 12]),
            (side_by_side(TRIANGLE, KITE), [GREAT, 1, -GREAT] + late, [3, 4, 5, 6]),
        ]:
            for nodes in ([], run(graph, position, 2)[1]):
                self.assertEqual(outcome(graph, play(graph, position, nodes))[0], "open")
                found = raised(Undecided, complete_with, graph, position, nodes).value
                self.assertEqual(found, component)
                found.clear()
                self.assertEqual(raised(Undecided, complete_with, graph, position, nodes).value, component)

    def test_the_limit_of_1000_firings_starts_where_the_play_ends(self):
        position = [501, 1, -501, 10 ** 9]
        raised(Undecided, complete_with, KITE, position, [])
        nodes = run(KITE, position, 1)[1]
        self.assertEqual(len(complete_with(KITE, position, nodes)), 1001)

    def test_too_many(self):
        position = [5001, 1, -5001]
        self.assertEqual(steps(TRIANGLE, position), 10001)
        self.assertEqual(raised(TooMany, complete_with, TRIANGLE, position, []).value, 10001)
        nodes = run(TRIANGLE, position, 1)[1]
        found = complete_with(TRIANGLE, position, nodes)
        self.assertEqual([found[:1], len(found)], [nodes, 10001])
        self.assertTrue(is_complete(TRIANGLE, position, found))
        graph = side_by_side(TRIANGLE, path(1))
        self.assertEqual(len(complete_with(graph, [5000, 1, -5000, -1], [])), 10000)
        self.assertEqual(raised(TooMany, complete_with, graph, [5001, 1, -5001, -1], [3]).value, 10001)
        self.assertEqual(raised(TooMany, complete_with, TRIANGLE, [GREAT, 1, -GREAT], [2]).value, 2 * GREAT - 2)
        graph = side_by_side(KITE, TRIANGLE)
        position = [500, 1, -500, 10 ** 9, 5000, 1, -5000]
        self.assertEqual(raised(TooMany, complete_with, graph, position, []).value, 999 + 9999)

    def test_lists_that_are_no_plays(self):
        position = [-1, -1, -1]
        for graph in (PATH, TRIANGLE):
            for nodes in no_node_lists(3) + [[0, 0], [0, 1, 2, 0, 0, 0]]:
                self.assertIs(raised(InvalidPlay, complete_with, graph, position, nodes).value, nodes)
        nodes = [1]
        self.assertIs(raised(InvalidPlay, complete_with, TRIANGLE, [1, 0, -1], nodes).value, nodes)

    def test_the_position_is_checked_first(self):
        for position in no_positions(3):
            for nodes in ([], None, [True]):
                self.assertIs(raised(InvalidPosition, complete_with, PATH, position, nodes).value, position)

    def test_arguments_do_not_change_and_results_are_new(self):
        position, nodes = [-1, -2], [1]
        complete_with(path(2), position, nodes).append(9)
        self.assertEqual([position, nodes, complete_with(path(2), position, nodes)], [[-1, -2], [1], [1, 0, 1]])
        whole = [1, 0, 1]
        found = complete_with(path(2), position, whole)
        self.assertEqual(found, whole)
        self.assertIsNot(found, whole)
        position, nodes = [1, 0, -1], [2]
        raised(Endless, complete_with, TRIANGLE, position, nodes)
        self.assertEqual([position, nodes], [[1, 0, -1], [2]])


if __name__ == "__main__":
    unittest.main()
