"""Sets of nodes that are fired at once, and rounds: promises [21], [22], and what [3], [4] (e) say of them."""

import copy
import inspect
import itertools
import random
import unittest

from firenegatives import rounds as rounds_file
from firenegatives.errors import InvalidLimit, InvalidPosition, InvalidSet, NotNegative, TooMany
from firenegatives.firing import fire, has_ended, is_complete, is_play, play, run
from firenegatives.graphs import Graph
from firenegatives.outcomes import outcome
from firenegatives.rounds import fewest_rounds, fire_set, rounds
from tests.judges import near_of
from tests.samples import (
    GREAT, GRID, KITE, NOT_INTEGERS, complete_edges, cycle, legs, moved_graph, no_node_lists, no_positions, path,
    raised, side_by_side, some_order, star,
)
from tests.searches import ABOUT_2000, apart_sets, flipped, reached_by_plays

PATH = path(3)
TRIANGLE = cycle(3)
SHAPES = [path(1), path(2), PATH, path(6), Graph(5), star(4), star(6), TRIANGLE, cycle(6), KITE, GRID, legs(1, 2, 4),
          Graph(9, complete_edges(9)), side_by_side(path(3), KITE, Graph(2), cycle(4)),
          moved_graph(side_by_side(path(5), star(5), path(2)), some_order(12, 3))]
# Small graphs with positions from which few positions are reached; the plays of the last three never end.
SMALL = [(path(1), [-5]), (path(2), [-1, -2]), (PATH, [-1, 0, -2]), (PATH, [-1, -1, -1]), (PATH, [0, -1, 0]),
         (path(4), [-1, -1, -1, -1]), (path(4), [0, -GREAT, 3, -2]), (path(5), [-1, 2, -3, 1, -1]),
         (path(5), [-1, 0, -1, 0, -1]), (star(4), [-1, -1, -1, -1]), (star(4), [-2, 1, 1, -1]),
         (Graph(4), [-1, 0, -3, -2]),
         (TRIANGLE, [2, 1, -2]), (TRIANGLE, [-1, -1, 3]), (TRIANGLE, [GREAT, -1, -1]), (cycle(4), [-1, 3, -2, 1]),
         (cycle(4), [-1, 2, -1, 2]), (cycle(5), [-2, 4, -1, 3, -3]), (KITE, [1, -1, 5, 0]), (KITE, [-1, -1, 9, -2]),
         (side_by_side(path(2), path(2)), [-1, -2, -1, 0]), (moved_graph(path(5), [3, 0, 4, 1, 2]), [-1, -2, 0, -1, 1]),
         (moved_graph(star(5), [4, 0, 1, 2, 3]), [-1, -1, 2, -1, 1]), (path(3), [4, 0, 2]), (KITE, [0, 0, 0, 0]),
         (TRIANGLE, [1, 0, -1]), (cycle(4), [1, -1, 1, -1]), (side_by_side(path(2), cycle(3)), [-1, -1, 0, 2, -2])]


def positions_on(graph, chance):
    """Return positions with small and great, many and few negative numbers."""
    size = graph.size()
    for bound in (1, 4, GREAT):
        yield [chance.randint(-bound, bound) for node in range(size)]
        yield [-chance.randint(1, bound) for node in range(size)]
    yield [0] * size
    yield [-1 if node == size // 2 else 3 for node in range(size)]


def taken_in_a_round(graph, position):
    """Return the nodes of a round as [21] says."""
    taken = []
    for node in range(graph.size()):
        if position[node] < 0 and not set(graph.neighbours(node)) & set(taken):
            taken.append(node)
    return taken


def first_of_the_fewest(graph, position):
    """Return what [22] says by a search: all that n sets reach, each with the first list that leads there."""
    near, seen = near_of(graph), set()
    layer = {tuple(position): []}
    while layer:
        ended = [done for numbers, done in layer.items() if min(numbers) >= 0]
        if ended:
            return min(ended)
        seen.update(layer)
        following = {}
        for numbers, done in layer.items():
            for nodes in apart_sets(graph, [node for node, number in enumerate(numbers) if number < 0])[1:]:
                reached = numbers
                for node in nodes:
                    reached = flipped(near, reached, node)
                if reached not in seen:
                    following[reached] = min(following.get(reached, done + [nodes]), done + [nodes])
        layer = following
    return None


class TestExamples(unittest.TestCase):
    def test_rounds(self):
        self.assertEqual([fire_set(PATH, [-1, 0, -2], [2, 0]), rounds(PATH, [-1, 0, -2], 10)],
                         [[1, -3, 2], ([2, 0, 1], [[0, 2], [1], [0, 2]])])

    def test_fewest_rounds(self):
        self.assertEqual(fewest_rounds(PATH, [-1, 0, -2]), [[0, 2], [1], [0, 2]])


class TestInterface(unittest.TestCase):
    SIGNATURES = {"fire_set": "(graph, position, nodes)", "rounds": "(graph, position, limit)",
                  "fewest_rounds": "(graph, position)"}

    def test_argument_names(self):
        for name, signature in self.SIGNATURES.items():
            function = getattr(rounds_file, name)
            self.assertEqual(str(inspect.signature(function)), signature, name)
            self.assertEqual(function.__module__, "firenegatives.rounds", name)

    def test_keywords(self):
        self.assertEqual(fire_set(nodes=[1], position=[0, -3], graph=path(2)), [-3, 3])
        self.assertEqual(rounds(limit=1, position=[0, -3], graph=path(2)), ([-3, 3], [[1]]))
        self.assertEqual(fewest_rounds(position=[0, -3], graph=path(2)), [[1], [0]])


class TestFireSet(unittest.TestCase):
    def test_the_same_as_one_by_one(self):
        chance = random.Random(31)
        for graph in SHAPES:
            for position in positions_on(graph, chance):
                negative = [node for node, number in enumerate(position) if number < 0]
                sets = apart_sets(graph, negative)
                for nodes in sets[:40] + sets[-1:]:
                    ways = list(itertools.islice(itertools.permutations(nodes), 6)) + [nodes[::-1]]
                    for way in ways + [chance.sample(nodes, len(nodes))]:
                        self.assertEqual(fire_set(graph, position, list(way)), play(graph, position, list(way)))
                    self.assertEqual(fire_set(graph, position, nodes), play(graph, position, nodes))

    def test_by_the_definition(self):
        self.assertEqual(fire_set(star(4), [5, -1, -2, -GREAT], [3, 1, 2]), [2 - GREAT, 1, 2, GREAT])
        self.assertEqual(fire_set(cycle(4), [-1, 0, -2, 7], [0, 2]), [1, -3, 2, 4])
        self.assertEqual(fire_set(path(2), [0, -1], [1]), [-1, 1])
        self.assertEqual(fire_set(KITE, [-1, -1, -1, -2], [3, 1]), [-2, 1, -4, 2])

    def test_the_empty_set(self):
        for position in ([1, 2, 3], [-1, -2, -3], [0, 0, 0]):
            result = fire_set(PATH, position, [])
            self.assertEqual(result, position)
            self.assertIsNot(result, position)

    def test_a_node_twice_and_neighbours(self):
        for nodes in ([0, 0], [2, 0, 2], [0, 1], [1, 0], [0, 2, 1], [1, 2], [1, 1], [2, 2, 2]):
            for position in ([-1, -1, -1], [1, -1, -1], [0, 0, 0]):
                self.assertIs(raised(InvalidSet, fire_set, PATH, position, nodes).value, nodes)
        for graph in SHAPES:
            position = [-1] * graph.size()
            for one, two in itertools.product(range(graph.size()), repeat=2):
                nodes = [one, two]
                if one == two or two in graph.neighbours(one):
                    self.assertIs(raised(InvalidSet, fire_set, graph, position, nodes).value, nodes)
                else:
                    self.assertEqual(fire_set(graph, position, nodes), fire(graph, fire(graph, position, one), two))

    def test_what_is_no_list_of_nodes(self):
        for nodes in no_node_lists(3) + [(0, 2), [True], [0, True], [False, 2], [2, -1], [0, 3], [[0, 2]], "02"]:
            for position in ([-1, -1, -1], [1, 1, 1]):
                self.assertIs(raised(InvalidSet, fire_set, PATH, position, nodes).value, nodes)

    def test_not_negative(self):
        position = [-1, 0, -2, 5, 0, -3]
        for nodes, expected in [([1], 1), ([0, 3, 1], 3), ([0, 1, 3], 1), ([4, 0, 2], 4), ([5, 2, 4], 4),
                                ([0, 2, 5, 3], 3)]:
            self.assertEqual(raised(NotNegative, fire_set, Graph(6), position, nodes).value, expected)
        self.assertEqual(raised(NotNegative, fire_set, PATH, [0, -1, GREAT], [2, 0]).value, 2)

    def test_what_is_fired_before_makes_no_node_negative(self):
        # Firing the first node would make the others negative, but they are its neighbours.
        self.assertEqual(raised(InvalidSet, fire_set, PATH, [-5, 1, 0], [0, 1]).value, [0, 1])
        self.assertEqual(raised(NotNegative, fire_set, PATH, [-5, 1, 0], [0, 2]).value, 2)

    def test_order_of_the_exceptions(self):
        for position in no_positions(3):
            for nodes in ([0], [0, 1], None, [7]):
                self.assertIs(raised(InvalidPosition, fire_set, PATH, position, nodes).value, position)
        for nodes in ([0, 0], [2, 0, 1], [0, 3], [1, True], (0,)):
            self.assertIs(raised(InvalidSet, fire_set, PATH, [1, 1, 1], nodes).value, nodes)

    def test_arguments_do_not_change_and_results_are_new(self):
        position, nodes = [-1, 0, -2], [2, 0]
        fire_set(PATH, position, nodes).append(7)
        raised(NotNegative, fire_set, PATH, position, [1])
        raised(InvalidSet, fire_set, PATH, position, [0, 1])
        self.assertEqual([position, nodes], [[-1, 0, -2], [2, 0]])
        self.assertEqual(fire_set(PATH, position, nodes), [1, -3, 2])


class TestRounds(unittest.TestCase):
    def check_rounds(self, graph, position, limit):
        result = rounds(graph, position, limit)
        self.assertIs(result.__class__, tuple)
        reached, done = result
        numbers = list(position)
        for nodes in done:
            self.assertEqual(nodes, taken_in_a_round(graph, numbers))
            self.assertTrue(nodes)
            numbers = fire_set(graph, numbers, nodes)
        self.assertEqual(numbers, reached)
        self.assertLessEqual(len(done), limit)
        self.assertTrue(len(done) == limit or has_ended(graph, reached))
        fired = [node for nodes in done for node in nodes]
        self.assertTrue(is_play(graph, position, fired))
        if has_ended(graph, reached):
            self.assertTrue(is_complete(graph, position, fired))
            self.assertEqual(outcome(graph, position, limit=10000), ("ends", len(fired), reached))
        return done

    def test_by_the_definition(self):
        chance = random.Random(32)
        for graph in SHAPES:
            for position in positions_on(graph, chance):
                for limit in (0, 1, 2, 5, 60):
                    self.check_rounds(graph, position, limit)

    def test_the_smaller_neighbour_is_taken(self):
        self.assertEqual(rounds(PATH, [-1, -2, -3], 1), ([1, -6, 3], [[0, 2]]))
        self.assertEqual(rounds(PATH, [1, -2, -3], 1), ([-1, 2, -5], [[1]]))
        self.assertEqual(rounds(path(4), [-1, -1, -1, -1], 1)[1], [[0, 2]])
        self.assertEqual(rounds(moved_graph(path(4), [1, 0, 2, 3]), [-1] * 4, 1)[1], [[0, 3]])
        self.assertEqual(rounds(star(5), [-1] * 5, 1)[1], [[0]])

    def test_limits_around_the_number_of_rounds(self):
        for graph, position in [(PATH, [-1, 0, -2]), (path(6), [-1] * 6), (TRIANGLE, [50, 1, -50]),
                                (KITE, [3, -2, 8, -1]), (Graph(3), [-1, 2, -3]), (legs(1, 2, 4), [-1] * 8)]:
            end, nodes = run(graph, position, 10000)
            done = self.check_rounds(graph, position, 10000)
            self.assertEqual(rounds(graph, position, 10000)[0], end)
            self.assertEqual(rounds(graph, position, len(done)), (end, done))
            self.assertEqual(rounds(graph, position, len(done) + 1), (end, done))
            reached, fewer = rounds(graph, position, len(done) - 1)
            self.assertEqual(fewer, done[:-1])
            self.assertFalse(has_ended(graph, reached))
            self.assertEqual(rounds(graph, position, 0), (position, []))

    def test_positions_that_have_ended(self):
        for graph in SHAPES:
            for position in ([0] * graph.size(), [GREAT] * graph.size()):
                for limit in (0, 1, 10000):
                    self.assertEqual(rounds(graph, position, limit), (position, []))

    def test_plays_that_never_end(self):
        for limit in (0, 1, 7, 10000):
            self.assertEqual(len(rounds(TRIANGLE, [1, 0, -1], limit)[1]), limit)
        self.assertEqual(rounds(TRIANGLE, [1, 0, -1], 3), ([1, 0, -1], [[2], [1], [0]]))
        self.assertEqual(len(self.check_rounds(KITE, [-1, 0, 0, 0], 200)), 200)

    def test_many_rounds(self):
        self.assertEqual(len(rounds(TRIANGLE, [10002, 0, -10000], 10000)[1]), 10000)
        end, done = rounds(TRIANGLE, [3000, 1, -3000], 10000)
        self.assertEqual([end, len(done)], [[0, 1, 0], 5999])

    def test_invalid_limits(self):
        for limit in [-1, 10001, GREAT, -GREAT] + NOT_INTEGERS:
            for position in ([-1, 0, -2], [1, 2, 3]):
                self.assertIs(raised(InvalidLimit, rounds, PATH, position, limit).value, limit)

    def test_order_of_the_exceptions(self):
        for position in no_positions(3):
            for limit in (5, -1, None):
                self.assertIs(raised(InvalidPosition, rounds, PATH, position, limit).value, position)

    def test_arguments_do_not_change_and_results_are_new(self):
        for position in ([-1, 0, -2], [1, 2, 3]):
            before = list(position)
            first = copy.deepcopy(rounds(PATH, position, 10))
            reached, done = rounds(PATH, position, 10)
            reached.append(9)
            done.append([9])
            done[0].append(9)
            self.assertEqual([position, rounds(PATH, position, 10)], [before, first])


class TestFewestRounds(unittest.TestCase):
    def test_against_a_search(self):
        for graph, position in SMALL:
            self.assertEqual(fewest_rounds(graph, position), first_of_the_fewest(graph, position), (graph, position))

    def test_against_a_search_on_all_small_positions(self):
        for graph in (path(2), PATH, path(4), star(4), cycle(4)):
            for numbers in itertools.product((-2, -1, 0, 1), repeat=graph.size()):
                position = list(numbers)
                if len(graph) == graph.size() and sum(position) < 0:
                    continue
                self.assertEqual(fewest_rounds(graph, position), first_of_the_fewest(graph, position), position)

    def test_rounds_of_a_shortest_list(self):
        for graph, position in SMALL[:-3]:
            done = fewest_rounds(graph, position)
            numbers = position
            for nodes in done:
                self.assertEqual(nodes, sorted(set(nodes)))
                self.assertTrue(nodes)
                numbers = fire_set(graph, numbers, nodes)
            fired = [node for nodes in done for node in nodes]
            others = rounds(graph, position, 10000)[1]
            self.assertEqual(numbers, rounds(graph, position, 10000)[0])
            self.assertLessEqual(len(done), len(others))
            self.assertEqual(len(fired), sum(len(nodes) for nodes in others))
            self.assertGreaterEqual(len(done), max(fired.count(node) for node in range(graph.size())))

    def test_fewer_than_by_rounds(self):
        graph = path(4)
        positions = [list(numbers) for numbers in itertools.product((-2, -1, 0, 1), repeat=4)]
        fewer = [position for position in positions
                 if len(fewest_rounds(graph, position)) < len(rounds(graph, position, 99)[1])]
        self.assertGreater(len(fewer), 5)
        for position in fewer:
            self.assertEqual(fewest_rounds(graph, position), first_of_the_fewest(graph, position))

    def test_the_first_of_several(self):
        # The node 2 may be fired in the first or in the second round: the list that begins with [0] comes first.
        graph = side_by_side(path(2), path(1))
        self.assertEqual(fewest_rounds(graph, [-1, 0, -1]), [[0], [1, 2]])
        self.assertEqual(fewest_rounds(Graph(3), [-1, -1, -1]), [[0, 1, 2]])
        self.assertEqual(fewest_rounds(side_by_side(path(1), path(3)), [-1, 0, 0, -1]), [[0, 3], [2], [1]])
        self.assertEqual(fewest_rounds(path(2), [-1, -2]), [[0], [1], [0]])

    def test_positions_that_have_ended(self):
        for graph in SHAPES:
            self.assertEqual(fewest_rounds(graph, [0] * graph.size()), [])
            self.assertEqual(fewest_rounds(graph, [GREAT] * graph.size()), [])

    def test_no_play_ends(self):
        for graph, position in [(TRIANGLE, [1, 0, -1]), (cycle(5), [GREAT, -GREAT, 0, 0, 0]),
                                (star(5), [1, -1, -1, 0, 0]), (side_by_side(Graph(2), TRIANGLE), [1, -1, 2, -2, 0]),
                                (legs(2, 2, 2), [1, -1, -1] + [0] * 4)]:
            self.assertIsNone(fewest_rounds(graph, position))

    def test_2000_positions(self):
        for graph, position, count, ends in ABOUT_2000:
            self.assertEqual(len(reached_by_plays(graph, position)), count)
            if count > 2000:
                self.assertEqual(raised(TooMany, fewest_rounds, graph, position).value, 2000)
            elif ends:
                done = fewest_rounds(graph, position)
                self.assertTrue(is_complete(graph, position, [node for nodes in done for node in nodes]))
            else:
                self.assertIsNone(fewest_rounds(graph, position))

    def test_too_many_also_if_no_play_ends(self):
        for graph, position in [(TRIANGLE, [-1, 0, 0]), (KITE, [-1, 0, 0, 0]), (GRID, [-1] * 16),
                                (cycle(16), [-1] * 16), (path(16), [-GREAT] * 16), (Graph(11), [-1] * 11),
                                (Graph(16), [-1] * 16),
                                (side_by_side(Graph(11), TRIANGLE), [-1] * 11 + [1, 0, -1])]:
            self.assertEqual(raised(TooMany, fewest_rounds, graph, position).value, 2000)
        self.assertEqual(fewest_rounds(Graph(10), [-1] * 10), [list(range(10))])

    def test_invalid_positions(self):
        for position in no_positions(3):
            self.assertIs(raised(InvalidPosition, fewest_rounds, PATH, position).value, position)

    def test_arguments_do_not_change_and_results_are_new(self):
        position = [-1, 0, -2]
        found = fewest_rounds(PATH, position)
        found[0].append(9)
        found.append([])
        self.assertEqual([position, fewest_rounds(PATH, position)], [[-1, 0, -2], [[0, 2], [1], [0, 2]]])


if __name__ == "__main__":
    unittest.main()
